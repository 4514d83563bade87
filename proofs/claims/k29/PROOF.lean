import PyProof.Rows.All
import Wide.All
import OpenK.AllK
import Wide.FinOn
import Lean
import PyProof.EqAt
import PyProof.EqKinds
import PyProof.TupleCall
import PySem.Challenge.RW_lostblock_k29_kept_cells
set_option Elab.async false
set_option linter.all false
set_option maxRecDepth 100000
def PySem.W.Fast.tw4398207627446147010:=()
def PySem.W.Fast.tw9094636502581613179:=()
def PySem.W.Fast.tw6321991542736713967:=()
def PySem.W.Fast.tw2499819117860158993:=()
def PySem.W.Fast.tw12836126681738736020:=()
def PySem.W.Fast.tw11396074476584607426:=()
def PySem.W.Fast.tw13351326328949970429:=()
def PySem.W.Fast.tw16341113705728819257:=()
def PySem.W.Fast.tw9412235520647360381:=()
def PySem.W.Fast.tw6897443676709525685:=()
def PySem.W.Fast.tw4715854704606104461:=()
def PySem.W.Fast.tw389173878691524064:=()
def PySem.W.Fast.tw17725699320296376301:=()
def PySem.W.Fast.tw14234257949792894472:=()
def PySem.W.Fast.tw5934817024298404472:=()
def PySem.W.Fast.tw15760068013137930368:=()
def PySem.W.Fast.tw9779852027735977026:=()
def PySem.W.Fast.tw404660070751742562:=()
def PySem.W.Fast.tw1974452652987338896:=()
def PySem.W.Fast.tw1337663235624460791:=()
def PySem.W.Fast.tw3545521950165321965:=()
def PySem.W.Fast.tw15664490776859863935:=()
def PySem.W.Fast.tw13529485544270567798:=()
def PySem.W.Fast.tw15320098122731426651:=()
def PySem.W.Fast.tw11894128627708133259:=()
def PySem.W.Fast.tw8581348718832312383:=()
def PySem.W.Fast.tw9452431469458334560:=()
def PySem.W.Fast.tw1732938275646535697:=()
def PySem.W.Fast.tw4617149696852387326:=()
def PySem.W.Fast.tw11874394063053166578:=()
def PySem.W.Fast.tw7098690799897284726:=()
def PySem.W.Fast.tw1133708631903124866:=()
def PySem.W.Fast.tw11034499980875083954:=()
def PySem.W.Fast.tw7501951149588790786:=()
def PySem.W.Fast.tw12203189634259146903:=()
def PySem.W.Fast.tw17347350927392734557:=()
def PySem.W.Fast.tw16873091335618025396:=()
def PySem.W.Fast.tw16539130424147269107:=()
def PySem.W.Fast.tw2404116361218507520:=()
def PySem.W.Fast.tw17046597659612291632:=()
def PySem.W.Fast.tw16319729270319123819:=()
def PySem.W.Fast.tw13285925666901403116:=()
def PySem.W.Fast.tw5710291072160596104:=()
def PySem.W.Fast.tw5885953204966360660:=()
def PySem.W.Fast.tw15267951635173305218:=()
def PySem.W.Fast.tw16640407887488642543:=()
def PySem.W.Fast.tw16008630772427539580:=()
def PySem.W.Fast.tw10919757566017149635:=()
def PySem.W.Fast.tw16323232494255635050:=()
def PySem.W.Fast.tw12477769992127454355:=()
def PySem.W.Fast.tw10354577649569585867:=()
def PySem.W.Fast.tw3818939024597511353:=()
def PySem.W.Fast.tw10252790484520530620:=()
def PySem.W.Fast.tw774158164129979420:=()
def PySem.W.Fast.tw17975626538110076727:=()
local macro_rules|`(command| def $d:declId $s:optDeclSig $v:declVal)=>`(command| noncomputable def $d:declId $s:optDeclSig $v:declVal)
open PySem.W (keepIn fnOf codeIn nsIn)
def Zaa:=@PySem.wpAny_bind
def Zab:=@Option.some.inj
def Zac:=@List.getElem?_eq_some_iff
def Zad:=@PySem.Heap.get?_push_of_some
def Zae:=@if_neg
def Zaf:=@PySem.wpAny_pure
def Zag:=@if_pos
def Zah:=@List.mem_append
def Zai:=@Nat.le_refl
def Zaj:=@List.getElem?_append_left
def Zak:=@List.getElem?_set_ne
def Zal:=@List.mem_of_getElem?
def Zam:=@PySem.Heap.lt_size
def Zan:=@List.map_cons
def Zao:=@List.Pairwise.sublist
def Zap:=@Nat.lt_of_lt_of_le
def Zaq:=@PyProof.Rows.wpS_bind
def Zar:=@PySem.Heap.get?_push_size
def Zas:=@List.mem_map
def Zat:=@List.pairwise_append
def Zau:=@List.getElem?_append_right
def Zav:=@PyProof.Rows.wpS_pure
def Zaw:=@List.mem_cons
def Zax:=@List.append_assoc
def Zay:=@PySem.W.mg_of
def Zaz:=@List.length_cons
def ZaA:=@List.mem_range
def ZaB:=@decide_eq_true
def ZaC:=@decide_eq_false
def ZaD:=@Nat.ne_of_lt
def ZaE:=@Array.getElem?_eq_getElem
def ZaF:=@Nat.le_trans
def ZaG:=@List.mem_filter
def ZaH:=@Array.getElem?_toList
def ZaI:=@List.take_append_drop
def ZaJ:=@List.append_nil
def ZaK:=@List.mem_singleton
def ZaL:=@List.getElem?_eq_none
def ZaM:=@Nat.le_of_lt
def ZaN:=@List.mem_append_right
def ZaO:=@List.mem_of_mem_take
def ZaP:=@List.take_sublist
def ZaQ:=@Int.toNat_natCast
def ZaR:=@PySem.W.mg_none_of
def ZaS:=@Array.toList_append
def ZaT:=@List.getElem?_set_self
def ZaU:=@List.mem_of_mem_drop
def ZaV:=@List.drop_sublist
def ZaW:=@List.drop_eq_getElem_cons
def ZaX:=@Ne.symm
def ZaY:=@PySem.PassesOwn.never
def ZaZ:=@Int.emod_lt_of_pos
def Za0:=@PyProof.Rows.wpS_mono
def Za1:=@List.length_filter_le
def Za2:=@List.Perm.append_left
def Za3:=@Array.length_toList
def Za4:=@List.map_congr_left
def Za5:=@PySem.F.slot_dict_itemiterator_next
def Za6:=@List.all_eq_true
def Za7:=@PySem.F.slot_dict_keyiterator_next
def Za8:=@PySem.wpAny_mono
def Za9:=@PyProof.Rows.wpS_forRange
def Zba:=@List.take_of_length_le
def Zbb:=@Nat.zero_le
def Zbc:=@List.map_append
def Zbd:=@congrArg
def Zbe:=@Array.perm_iff_toList_perm
def Zbf:=@Bool.false_ne_true
def Zbg:=@Bool.false_eq_true
def Zbh:=@if_false
def Zbi:=@Option.map_eq_some_iff
def Zbj:=@List.drop_of_length_le
def Zbk:=@Nat.min_eq_left
def Zbl:=@Int.emod_nonneg
def Zbm:=@List.getElem?_range
def Zbn:=@List.pairwise_map
def Zbo:=@List.drop_zero
def Zbp:=@Nat.lt_irrefl
def Zbq:=@PyProof.Rows.callWith_type1
def Zbr:=@Int.natCast_nonneg
def Zbs:=@List.getElem?_replicate
def Zbt:=@PySem.W.kia_one
def Zbu:=@Int.eq_ofNat_of_zero_le
def Zbv:=@List.nodup_cons
def Zbw:=@List.cons.injEq
def Zbx:=@List.contains_cons
def Zby:=@List.getElem?_of_mem
def Zbz:=@List.take_take
def ZbA:=@List.ext_getElem?
def ZbB:=@Array.toList_push
def ZbC:=@List.nodup_append
def ZbD:=@Option.map_some
def ZbE:=@Int.toNat_of_nonneg
def ZbF:=@PySem.Heap.SameBut.update
def ZbG:=@List.filter_sublist
def ZbH:=@PySem.Heap.get?_update_other
def ZbI:=@if_true
def ZbJ:=@PySem.Heap.get?_update_self
def ZbK:=@List.getElem?_zip_eq_some
def ZbL:=@List.pairwise_iff_getElem
def ZbM:=@List.length_nil
def ZbN:=@PySem.mem_of_lookup
def ZbO:=@Nat.add_sub_cancel_left
def ZbP:=@PySem.F.attr_ValueError
def ZbQ:=@List.filter_eq_self
def ZbR:=@List.mem_reverse
def ZbS:=@List.nodup_range
def ZbT:=@List.filter_cons
def ZbU:=@Array.getElem?_eq_none
def ZbV:=@List.Perm.append_right
def ZbW:=@List.filter_eq_nil_iff
def ZbX:=@Nat.ne_of_gt
def ZbY:=@Nat.le_of_eq
def ZbZ:=@Nat.le_succ
def Zb0:=@List.find?_cons
def Zb1:=@List.any_cons
set_option compiler.extract_closed false
set_option bootstrap.genMatcherCode false
set_option genSizeOf false
local macro_rules|`(tactic| omega)=>`(tactic| first|(grind only)|omega (config:={}))
local macro_rules|`(tactic| lia)=>`(tactic| first|lia -verbose|omega (config:={}))
namespace L2
open PySem PySem.Spec PyProof.Rows
noncomputable abbrev Key:=Sum Int Str
def yp:Key->Value->Bool
 |.inl k,v=>Value.isInt k v
 |.inr x,v=>Value.isStrOf x v
def XQ(w:World):Key->Int
 |.inl k=>hashInt k
 |.inr x=>hashStr w x
theorem cR:∀ {k:Key}{v:Value},yp k v=true->(∃ i t,k=Sum.inl i/\v=Value.int i t)\/(∃ x t,k=Sum.inr x/\v=Value.str x t)
 |.inl i,v,h=>by
  obtain⟨t,e⟩:=Value.isInt_shape (k:=i) (v:=v) h;exact .inl ⟨i,t,rfl,e⟩
 |.inr x,v,h=>by
  obtain⟨t,e⟩:=Value.isStrOf_shape (x:=x) (v:=v) h;exact .inr ⟨x,t,rfl,e⟩
theorem JS(i:Int)(t:Tok):yp (.inl i) (.int i t)=true:=by simp[yp,Value.isInt]
theorem JT(x:Str)(t:Tok):yp (.inr x) (.str x t)=true:=by simp[yp,Value.isStrOf]
theorem Ug(a b:Int):decide ((Sum.inl a:Key)=Sum.inl b)=(a==b):=by
 by_cases e:a=b
 ·subst e;simp
 ·have h:¬(Sum.inl a:Key)=Sum.inl b:=λq=>e (Sum.inl.inj q);rw[ZaC h];exact(beq_eq_false_iff_ne.mpr e).symm
theorem Uh(a b:Str):decide ((Sum.inr a:Key)=Sum.inr b)=decide (a=b):=by
 by_cases e:a=b
 ·subst e;simp
 ·have h:¬(Sum.inr a:Key)=Sum.inr b:=λq=>e (Sum.inr.inj q);rw[ZaC h,ZaC e]
theorem Ui(a:Int)(b:Str):decide ((Sum.inl a:Key)=Sum.inr b)=false:=ZaC (λq=>nomatch q)
theorem Uj(a:Str)(b:Int):decide ((Sum.inr a:Key)=Sum.inl b)=false:=ZaC (λq=>nomatch q)
def cG(prog:Program)(w:World):PySem.KeyKind prog w Key where
 is:=yp
 hash:=XQ w
 inj:=λv a b ha hb=>by
  rcases cR ha with⟨i,t,rfl,rfl⟩|⟨x,t,rfl,rfl⟩
  ·rcases cR hb with⟨j,u,rfl,e⟩|⟨y,u,rfl,e⟩
   ·injection e with e1 _;rw[e1]
   ·exact nomatch e
  ·rcases cR hb with⟨j,u,rfl,e⟩|⟨y,u,rfl,e⟩
   ·exact nomatch e
   ·injection e with e1 _;rw[e1]
 byValue:=λk v h=>by
  rcases cR h with⟨i,t,rfl,rfl⟩|⟨x,t,rfl,rfl⟩<;>rfl
 pyHash:=λhv h=>by
  rcases cR hv with⟨i,t,rfl,rfl⟩|⟨x,t,rfl,rfl⟩
  ·exact wpAny_pyHash_int h
  ·exact wpAny_pyHash_str h
 eqBool:=λhu hv h=>by
  rcases cR hu with⟨i,t,rfl,rfl⟩|⟨x,t,rfl,rfl⟩
  ·rcases cR hv with⟨j,u,rfl,rfl⟩|⟨y,u,rfl,rfl⟩
   ·rw[Ug] at h;exact wpAny_eqBool_int h
   ·rw[Ui] at h;exact SeqAt.EqAt.int_str i t y u _ _ _ _ h
  ·rcases cR hv with⟨j,u,rfl,rfl⟩|⟨y,u,rfl,rfl⟩
   ·rw[Uj] at h;exact SeqAt.EqAt.str_int x t j u _ _ _ _ h
   ·rw[Uh] at h;exact wpAny_eqBool_str h
 «strs»:=λk x t v h=>by
  rcases cR h with⟨i,u,rfl,e⟩|⟨y,u,rfl,e⟩
  ·exact nomatch e
  ·injection e with e1 _
   subst e1;cases v<;>rfl
theorem Cv(prog:Program)(w:World)(i:Int)(t:Tok):(cG prog w).is (.inl i) (.int i t)=true:=JS i t
theorem Cw(prog:Program)(w:World)(x:Str)(t:Tok):(cG prog w).is (.inr x) (.str x t)=true:=JT x t
inductive V where
 |non|bl (b:Bool)|int (i:Int)|str (x:Str)|byt (b:Array UInt8)|flt (b:UInt64)|ref (a:Addr)|ty (n:String)
 deriving DecidableEq
def RelV:V->Value->Prop
 |.non,u=>u=Value.none
 |.bl b,u=>u=Value.bool b
 |.int i,u=>∃ t,u=Value.int i t
 |.str x,u=>∃ t,u=Value.str x t
 |.byt b,u=>∃ t,u=Value.bytes b t
 |.flt b,u=>∃ t,u=Value.float b t
 |.ref a,u=>u=Value.ref a
 |.ty n,u=>u=Value.type n
noncomputable abbrev Vals:List V->List Value->Prop:=Paired RelV
theorem Vals.length{xs:List V}{us:List Value}(r:Vals xs us):xs.length=us.length:=Paired.length r
theorem Vals.get:∀ {xs:List V}{us:List Value}{i:Nat}{x:V},Vals xs us->xs[i]?=some x->∃ u,us[i]?=some u/\RelV x u
 |_,_,_,_,.nil,e=>by simp at e
 |_,_,0,_,.cons r _,e=>by simp at e;subst e;exact⟨_,rfl,r⟩
 |_,_,i+1,x,.cons _ t,e=>by
  obtain⟨u,h1,h2⟩:=Vals.get (i:=i) (x:=x) t (by simpa using e)
  exact⟨u,by simpa using h1,h2⟩
theorem Vals.append:∀ {xs ys:List V}{us ws:List Value},Vals xs us->Vals ys ws->Vals (xs++ys) (us++ws)
 |_,_,_,_,.nil,s=>s
 |_,_,_,_,.cons r t,s=>.cons r (Vals.append t s)
theorem Vals.take:∀ {xs:List V}{us:List Value} (n:Nat),Vals xs us->Vals (xs.take n) (us.take n)
 |_,_,0,_=>.nil
 |_,_,_+1,.nil=>.nil
 |_,_,n+1,.cons r t=>.cons r (Vals.take n t)
theorem Vals.drop:∀ {xs:List V}{us:List Value} (n:Nat),Vals xs us->Vals (xs.drop n) (us.drop n)
 |_,_,0,r=>r
 |_,_,_+1,.nil=>.nil
 |_,_,n+1,.cons _ t=>Vals.drop n t
def mF:Option V->Option Value->Prop
 |some v,some u=>RelV v u
 |none,none=>True
 |_,_=>False
def KV{κ:Type}:List (κ×V)->List (κ×Value)->Prop:=Paired λ(p:κ×V) (q:κ×Value)=>p.1=q.1/\RelV p.2 q.2
def kV:Key->V
 |.inl i=>.int i
 |.inr x=>.str x
inductive HO where
 |lst (xs:List V)
 |tup (xs:List V)
 |dK (kvs:List (Key×V))|dT (kvs:List (List Key×V))
 |set (S:Int->Bool) (n:Nat)
 |ins (C dx:Addr) (fs:List (Str×V))
 |own (x:Addr)
 |xd (fs:List (Str×V))
 |met (f x:Addr)
 |rng (lo hi:Int)
 |frz (o:Obj) (u:HO)
 |tbl (ps:Array Value)
 |ext (φ:Heap->Prop)
noncomputable abbrev Hp:=Addr->Option HO
def upd(H:Hp)(a:Addr)(o:HO):Hp:=λb=>if b=a then some o else H b
theorem au{H:Hp}{a:Addr}{o:HO}:upd H a o a=some o:=by unfold upd;rw[Zag rfl]
theorem aq{H:Hp}{a b:Addr}{o:HO}(h:b≠a):upd H a o b=H b:=by unfold upd;rw[Zae h]
theorem Lz{H:Hp}{a b:Addr}{o u:HO}(h:H a=some o)(h':H b=some u)(d:o≠u):a≠b:=by
 intro e;subst e;rw[h] at h';exact d (Zab h')
theorem bB{H:Hp}{a b:Addr}{o:HO}(h:H a=some o)(h':H b=none):a≠b:=by
 intro e;subst e;rw[h] at h';cases h'
def fu(h:Heap)(a:Addr)(items:Array Value):Prop:=IsTup h a items/\∀ o,h.get? a=some o->o.dict=none
theorem fu.new(h:Heap)(items:Array Value):fu (h.push { cls:=.type "tuple",data:=.seq items }) h.objs.size items:=⟨IsTup.new h items,λo e=>by rw[Zar _ rfl] at e;cases e;rfl⟩
theorem fu.mk{h:Heap}{a:Addr}{items:Array Value}{n:Nat}(e:h.get? a=some { cls:=.type "tuple",data:=.seq items n }):fu h a items:=⟨⟨_,e,rfl,_,rfl⟩,λo q=>by rw[e] at q;cases q;rfl⟩
theorem fu.lt{h:Heap}{a:Addr}{items:Array Value}(x:fu h a items):a<h.objs.size:=x.1.lt
theorem fu.at'{h h':Heap}{a:Addr}{items:Array Value}(x:fu h a items)(e:∀ o,h.get? a=some o->h'.get? a=some o):fu h' a items:=by
 obtain⟨⟨o,h1,r⟩,d⟩:=x;exact⟨⟨o,e o h1,r⟩,λu q=>by rw[e o h1] at q;cases q;exact d o h1⟩
section
variable(P:Program)(w:World)
def cF(H:Hp)(h:Heap)(a:Addr):HO->Prop
 |.lst xs=>xs.length<=sizeLine/\∃ (its:List Value) (n:Nat),Vals xs its/\h.get? a=some { cls:=.type "list",data:=.seq its.toArray n }
 |.tup xs=>xs.length<=sizeLine/\∃ its:List Value,Vals xs its/\fu h a its.toArray
 |.dK kvs=>kvs.length<=sizeLine/\(a==sysModules)=false/\∃ vs,KV kvs vs/\h.DictOf (cG P w) a vs
 |.dT kvs=>kvs.length<=sizeLine/\(a==sysModules)=false/\∃ xs:List (List Key×Addr×Value),
   Paired (λ(p:List Key×V) (q:List Key×Addr×Value)=>p.1=q.1/\H q.2.1=some (.tup (p.1.map kV))/\RelV p.2 q.2.2) kvs xs /\
   ∃ o es ep,h.get? a=some o/\o.ExactDict/\o.data=.dict es ep/\es.toList=xs.map (entryOfKey (tupleKind (cG P w)))/\(xs.map (·.1)).Nodup
 |.set S n=>h.SetOf (intKind P w) a S n
 |.ins C dx fs=>H dx=some (.own a)/\fs.length<=1000/\dx≠a/\h.get? a=some (PySem.W.instObj C dx) /\
   ∃ mA,h.Ns1 dx mA/\(∀ f,mF (fs.lookup f) (mA f))/\PySem.Within mA (fs.map (·.1))
 |.own _=>∃ o,h.get? a=some o
 |.xd fs=>∃ mA,h.Ns1 a mA/\∀ f,mF (fs.lookup f) (mA f)
 |.rng lo hi=>∃ t u v,h.get? a=some { cls:=.type "range",data:=.fields #[.int lo t,.int hi u,.int 1 v] }
 |.frz o u=>h.get? a=some o/\cF H h a u
 |.tbl ps=>h.get? a=some { cls:=.none,data:=.fields ps }
 |.met f x=>h.get? a=some (PySem.W.methodObj (.ref f) (.ref x))
 |.ext φ=>φ h/\(∃ o,h.get? a=some o)/\∀ h1 h2:Heap,φ h1->(∀ o,h1.get? a=some o->h2.get? a=some o)->φ h2
def HOk(H:Hp)(h:Heap):Prop:=∀ a o,H a=some o->cF P w H h a o
end
section
variable{P:Program}{w:World}{H H':Hp}{h h':Heap}{a:Addr}{o:HO}
theorem cF.lt(x:cF P w H h a o):a<h.objs.size:=by
 cases o with
 |lst xs=>obtain⟨_,_,_,_,e⟩:=x;exact Zam e
 |tup xs=>obtain⟨_,_,_,p⟩:=x;exact p.lt
 |dK kvs=>obtain⟨_,_,_,_,o,_,_,e,_⟩:=x;exact Zam e
 |dT kvs=>obtain⟨_,_,_,_,o,_,_,e,_⟩:=x;exact Zam e
 |set S n=>obtain⟨o,_,_,_,e,_⟩:=x;exact Zam e
 |ins C dx fs=>obtain⟨_,_,_,e,_⟩:=x;exact Zam e
 |own y=>obtain⟨_,e⟩:=x;exact Zam e
 |xd fs=>obtain⟨_,⟨_,_,_,e,_⟩,_⟩:=x;exact Zam e
 |rng lo hi=>obtain⟨_,_,_,e⟩:=x;exact Zam e
 |frz ob u=>obtain⟨e,_⟩:=x;exact Zam e
 |tbl ps=>exact Zam (show h.get? a=some _ from x)
 |met f y=>exact Zam (show h.get? a=some _ from x)
 |ext φ=>obtain⟨_,⟨_,e⟩,_⟩:=x;exact Zam e
theorem Paired.Uk{α β:Type}{F G:α->β->Prop}:∀ {l₁:List α}{l₂:List β},Paired F l₁ l₂->(∀ a b,F a b->G a b)->Paired G l₁ l₂
 |_,_,.nil,_=>.nil
 |_,_,.cons r t,f=>.cons (f _ _ r) (Paired.Uk t f)
theorem cF.stay(x:cF P w H h a o)(k:∀ b u,(b=a\/H b=some (.own a))->h.get? b=some u->h'.get? b=some u)
  (ho:∀ b,H b=some (.own a)->H' b=some (.own a))(ht:∀ b xs,H b=some (.tup xs)->H' b=some (.tup xs)):cF P w H' h' a o:=by
 induction o with
 |lst xs=>obtain⟨z,its,n,r,e⟩:=x;exact⟨z,its,n,r,k _ _ (.inl rfl) e⟩
 |tup xs=>obtain⟨z,its,r,c⟩:=x;exact⟨z,its,r,c.at' λo e=>k _ _ (.inl rfl) e⟩
 |dK kvs=>obtain⟨z,y,vs,r,ob,es,ep,e,c⟩:=x;exact⟨z,y,vs,r,ob,es,ep,k _ _ (.inl rfl) e,c⟩
 |dT kvs=>
  obtain⟨z,y,xs,r,ob,es,ep,e,c⟩:=x;exact⟨z,y,xs,Paired.Uk r λp q z=>⟨z.1,ht _ _ z.2.1,z.2.2⟩,ob,es,ep,k _ _ (.inl rfl) e,c⟩
 |set S n=>obtain⟨ob,es,ep,t,e,c⟩:=x;exact⟨ob,es,ep,t,k _ _ (.inl rfl) e,c⟩
 |ins C dx fs=>
  obtain⟨d,z,ne,e,mA,⟨od,es,ep,e2,c⟩,r⟩:=x;exact⟨ho _ d,z,ne,k _ _ (.inl rfl) e,mA,⟨od,es,ep,k _ _ (.inr d) e2,c⟩,r⟩
 |own y=>obtain⟨ob,e⟩:=x;exact⟨ob,k _ _ (.inl rfl) e⟩
 |xd fs=>obtain⟨mA,⟨od,es,ep,e,c⟩,r⟩:=x;exact⟨mA,⟨od,es,ep,k _ _ (.inl rfl) e,c⟩,r⟩
 |rng lo hi=>obtain⟨t,u,v,e⟩:=x;exact⟨t,u,v,k _ _ (.inl rfl) e⟩
 |frz ob u ih=>obtain⟨e,q⟩:=x;exact⟨k _ _ (.inl rfl) e,ih q⟩
 |tbl ps=>
  have e:h.get? a=some { cls:=.none,data:=.fields ps }:=x;show h'.get? a=some { cls:=.none,data:=.fields ps }
  exact k a _ (.inl rfl) e
 |met f y=>
  have e:h.get? a=some (PySem.W.methodObj (.ref f) (.ref y)):=x;show h'.get? a=some (PySem.W.methodObj (.ref f) (.ref y))
  exact k a _ (.inl rfl) e
 |ext φ=>obtain⟨p,⟨o,e⟩,st⟩:=x;exact⟨st _ _ p λo q=>k _ _ (.inl rfl) q,⟨o,k _ _ (.inl rfl) e⟩,st⟩
theorem HOk.lt(x:HOk P w H h)(e:H a=some o):a<h.objs.size:=(x a o e).lt
theorem HOk.fresh(x:HOk P w H h)(e:h.objs.size<=a):H a=none:=by
 cases q:H a with
 |none=>rfl
 |some u=>exact absurd (Zap (x.lt q) e) (Zbp _)
theorem HOk.kept(x:HOk P w H h)(k:∀ b u,h.get? b=some u->h'.get? b=some u):HOk P w H h':=λa o e=>
 (x a o e).stay (λb u _ q=>k b u q) (λ_ q=>q) λ_ _ q=>q
theorem HOk.laid(x:HOk P w H h)(k:∀ b u,h.get? b=some u->h'.get? b=some u)(hp:h.objs.size<=a)(new:cF P w (upd H a o) h' a o):HOk P w (upd H a o) h':=λb u e=>by
 have hn:=x.fresh hp;by_cases hb:b=a
 ·subst hb;rw[au] at e;cases e;exact new
 ·rw[aq hb] at e;exact(x b u e).stay (λc v _ q=>k c v q) (λc q=>by rw[aq (bB q hn)];exact q) λc xs q=>by rw[aq (bB q hn)];exact q
end
def Rd(H:Hp)(a:Addr)(u:HO):Prop:=H a=some u\/∃ o,H a=some (.frz o u)
theorem Rd.ok{P:Program}{w:World}{H:Hp}{h:Heap}{a:Addr}{u:HO}(r:Rd H a u)(x:HOk P w H h):cF P w H h a u:=by
 rcases r with r|⟨o,r⟩
 ·exact x a u r
 ·obtain⟨_,q⟩:=x a _ r;exact q
def Mut:Option HO->Prop
 |some (.lst _)=>True
 |some (.dK _)=>True
 |some (.dT _)=>True
 |some (.set _ _)=>True
 |some (.ins _ _ _)=>True
 |some (.ext _)=>True
 |_=>False
section
variable{P:Program}{w:World}{H:Hp}{h h':Heap}{x e:Addr}{o':HO}
theorem HOk.write(ok:HOk P w H h)(mu:Mut (H x))(he:e=x\/H e=some (.own x))(k:∀ b u,b≠e->h.get? b=some u->h'.get? b=some u)(heo:∃ u,h'.get? e=some u)
  (new:cF P w (upd H x o') h' x o'):HOk P w (upd H x o') h':=λb u q=>by
 have nown:∀ c y,H c=some (.own y)->c≠x:=λc y r z=>by subst z;rw[r] at mu;exact mu
 have ntup:∀ c xs,H c=some (.tup xs)->c≠x:=λc xs r z=>by subst z;rw[r] at mu;exact mu
 by_cases hb:b=x
 ·subst hb;rw[au] at q;cases q;exact new
 ·rw[aq hb] at q;by_cases hbe:b=e
  ·have q':H b=some (.own x):=by
    rcases he with z|z
    ·exact absurd (hbe.trans z) hb
    ·rw[hbe];exact z
   rw[q] at q';cases q';obtain⟨v,hv⟩:=heo;exact⟨v,by rw[hbe];exact hv⟩
  ·refine(ok b u q).stay (λc v hc r=>k c v ?_ r) (λc r=>by rw[aq (nown c b r)];exact r) λc xs r=>by rw[aq (ntup c xs r)];exact r
   rcases hc with rfl|hc
   ·exact hbe
   ·rintro rfl;rcases he with z|z
    ·exact nown c b hc z
    ·rw[hc] at z;cases z;exact hb rfl
end
structure Un(fs ex:List Addr)(H H':Hp)(h h':Heap):Prop where
 keep:∀ b o,h.get? b=some o->H b=none->b ∉ fs->b ∉ ex->h'.get? b=some o
 slot:∀ b o,h.get? b=some o->H b=none->b∈fs->b ∉ ex->∃ sl,h'.get? b=some { o with slots:=sl }
 free:∀ b o,h.get? b=some o->H b=none->b ∉ ex->H' b=none
 there:∀ b o,h.get? b=some o->b ∉ ex->∃ o',h'.get? b=some o'
 tups:∀ b xs,H b=some (.tup xs)->H' b=some (.tup xs)
 frzs:∀ b o u,H b=some (.frz o u)->H' b=some (.frz o u)
 tbls:∀ b ps,H b=some (.tbl ps)->∃ more,H' b=some (.tbl (ps++more))
section
variable{fs ex:List Addr}{H H1:Hp}{h h1 h':Heap}{a x e:Addr}{o:HO}
theorem Un.any(u:Un fs ex H H1 h h1){b:Addr}{ob:Obj}(q:h.get? b=some ob)(n:H b=none)(hx:b ∉ ex):∃ sl,h1.get? b=some { ob with slots:=sl }:=by
 by_cases hb:b∈fs
 ·exact u.slot b ob q n hb hx
 ·exact⟨ob.slots,u.keep b ob q n hb hx⟩
theorem Un.kept(k:∀ b u,h.get? b=some u->h'.get? b=some u):Un fs ex H H h h':=
 ⟨λb ob q _ _ _=>k b ob q,λb ob q _ _ _=>⟨ob.slots,k b ob q⟩,λ_ _ _ n _=>n,λb ob q _=>⟨ob,k b ob q⟩,λ_ _ q=>q,λ_ _ _ q=>q,λ_ ps q=>⟨#[],by rw[q];simp⟩⟩
theorem Un.refl:Un fs ex H H h h:=Un.kept λ_ _ q=>q
theorem Un.laid(k:∀ b u,h.get? b=some u->h'.get? b=some u)(hp:h.objs.size<=a)(hn:H a=none):Un fs ex H (upd H a o) h h' where
 keep:=λb u q _ _ _=>k b u q
 slot:=λb u q _ _ _=>⟨u.slots,k b u q⟩
 free:=λb u q n _=>by rw[aq (ZaD (Zap (Zam q) hp))];exact n
 there:=λb u q _=>⟨u,k b u q⟩
 tups:=λb xs q=>by rw[aq (bB q hn)];exact q
 frzs:=λb u xs q=>by rw[aq (bB q hn)];exact q
 tbls:=λb ps q=>⟨#[],by rw[aq (bB q hn),q];simp⟩
theorem Un.write(mu:Mut (H x))(he:e=x\/H e=some (.own x))(k:∀ b u,b≠e->h.get? b=some u->h'.get? b=some u)(heo:∃ u,h'.get? e=some u):Un fs ex H (upd H x o) h h':=by
 have hx:∀ b,H b=none->b≠x:=λb n z=>by subst z;rw[n] at mu;exact mu
 have hb:∀ b,H b=none->b≠e:=λb n z=>by
  subst z;rcases he with r|r
  ·exact hx b n r
  ·rw[n] at r;cases r
 have hm:∀ b u,H b=some u->¬Mut (some u)->b≠x:=λb u q nm z=>by subst z;rw[q] at mu;exact nm mu
 refine⟨λb u q n _ _=>k b u (hb b n) q,λb u q n _ _=>⟨u.slots,k b u (hb b n) q⟩,λb u q n _=>by rw[aq (hx b n)];exact n,λb u q _=>?_,
  λb xs q=>by rw[aq (hm b _ q λz=>z)];exact q,λb u xs q=>by rw[aq (hm b _ q λz=>z)];exact q,λb ps q=>⟨#[],by rw[aq (hm b _ q λz=>z),q];simp⟩⟩
 by_cases hbe:b=e
 ·subst hbe;exact heo
 ·exact⟨u,k b u hbe q⟩
end
def trk(h:Heap)(H:Hp):List Addr:=(List.range h.objs.size).filter λa=>(H a).isSome
def zO(h:Heap)(H:Hp):Heap:=PySem.W.hideAll h (trk h H)
theorem JV(h:Heap)(H:Hp):(zO h H).objs.size=h.objs.size:=PySem.W.hideAll_size _ _
theorem LC{h:Heap}{H:Hp}{b:Addr}{o:Obj}(e:h.get? b=some o)(n:H b=none):(zO h H).get? b=some o:=
 PySem.W.hideAll_get _ e λhm=>by
  have q:(H b).isSome=true:=(ZaG.mp hm).2;rw[n] at q;simp at q
theorem Qo{h:Heap}{H:Hp}{b:Addr}{o:Obj}(e:(zO h H).get? b=some o):h.get? b=some o/\H b=none:=by
 have e':h.get? b=some o:=PySem.W.of_hideAll (trk h H) e;refine⟨e',?_⟩;cases q:H b with
 |none=>rfl
 |some x=>
  have hm:b∈trk h H:=ZaG.mpr ⟨ZaA.mpr (Zam e'),by simp[q]⟩
  have z:(zO h H).get? b=none:=PySem.W.hideAll_none (trk h H) hm;rw[z] at e;cases e
def Qp(g h:Heap)(L:Addr):List (Addr×Obj):=(List.range h.objs.size).filterMap λa=>if a=L\/(g.get? a).isSome=true then none else(h.get? a).map λo=>(a,o)
def rest(g h:Heap)(L d:Addr):List (Addr×Obj):=(Qp g h L).filter λp=>decide (p.1≠d)
structure Mod(K:PySem.W.Frag)(mg:Str->Option Value)(base:Heap):Prop where
 kin:K.In base
 glob:base.Ns mainGlobals mg
 blt:∃ mb,base.Ns builtinsNs mb/\∀ x:Str,x≠"__name__"->mb x=bootBuiltins x
 nolimit:base.NoLimit
structure Cx where
 prog:Program
 w:World
 K:PySem.W.Frag
 mg:Str->Option Value
 base:Heap
 A:Around
 N:List Str
 s₀:Shared
 H₀:Hp
 env:Env
 outer:List Env
 stack:List Env
 ex:List Addr
 fn:Str->Bool
 calm:Bool
 pn:List (Addr×Obj)
 xe:Value->Shared->Prop
def frs(l:List Env):List Addr:=l.filterMap (·.frame)
noncomputable abbrev Cx.fs(X:Cx):List Addr:=frs X.outer
def Vis(sc:Scope)(x:Str):Prop:=sc.names.lookup x=some .local\/sc.names.lookup x=some .cell\/sc.names.lookup x=some .free
def Loc(sc:Scope)(x:Str):Prop:=sc.names.lookup x=some .local\/sc.names.lookup x=some .cell
def Look(env:Env)(h:Heap)(m:Str->Option Value)(x:Str)(u:Value):Prop:=
 (env.kindOf x=some .local/\m x=some u)\/((env.kindOf x=some .cell\/env.kindOf x=some .free)/\∃ c,env.cells.lookup x=some c/\h.IsCell c (some u))
structure Cx.Ok(X:Cx):Prop where
 mod:Mod X.K X.mg X.base
 kind:X.env.scope.kind=.function
 glob:X.env.globals=mainGlobals
 blt:X.env.builtins=builtinsNs
 above:X.s₀.heap.objs.size<=X.env.locals
 inj:∀ x y c,X.env.cells.lookup x=some c->X.env.cells.lookup y=some c->x=y
 has:∀ x,(X.env.kindOf x=some .cell\/X.env.kindOf x=some .free)->∃ c,X.env.cells.lookup x=some c
 cab:∀ x c,X.fn x=true->X.env.cells.lookup x=some c->X.s₀.heap.objs.size<=c
 hd:X.calm=true->X.A.handled=none
 frames:X.A.frames=some X.stack
 stk:X.stack=X.outer\/(X.stack=X.env::X.outer/\X.env.frame=some X.env.locals)
 exf:∀ b∈X.ex,b≠X.env.locals/\∀ x c,X.env.cells.lookup x=some c->c≠b
 bs:∀ b o,X.base.get? b=some o->X.s₀.heap.get? b=some o/\X.H₀ b=none
 bsz:X.base.objs.size<=X.s₀.heap.objs.size
 noex:∀ b o,X.base.get? b=some o->b ∉ X.ex
 exfs:∀ b∈X.ex,b ∉ X.fs
 pH:X.s₀.heap.FunFrames X.base X.outer
 frf:∀ b∈X.fs,X.H₀ b=none
structure Inv(X:Cx)(pins:List (Addr×Obj))(σ:List (Option V))(H:Hp)(s:Shared):Prop where
 ok:X.Ok
 os:s.os=X.s₀.os
 bare:AllBare s.gens
 base:Un X.fs X.ex X.H₀ H X.s₀.heap s.heap
 loc:∃ m,s.heap.Ns X.env.locals m/\∀ (i:Nat) (x:Str) (v:V),X.N[i]?=some x->σ[i]?=some (some v)->Vis X.env.scope x->∃ u,RelV v u/\Look X.env s.heap m x u
 cell:∀ x c,X.env.cells.lookup x=some c->∃ v,s.heap.IsCell c v
 free:H X.env.locals=none
 freeC:∀ x c,X.env.cells.lookup x=some c->H c=none
 pin:∀ p∈X.pn++pins,s.heap.get? p.1=some p.2/\H p.1=none/\p.1≠X.env.locals/\p.1 ∉ X.fs/\∀ v,p.2.data≠.cell v
 hok:HOk X.prog X.w H s.heap
 len:σ.length=X.N.length
section
variable{X:Cx}{pins:List (Addr×Obj)}{σ:List (Option V)}{H H':Hp}{s:Shared}{h':Heap}
theorem Cx.Ok.Ul(ok:X.Ok){b:Addr}{o:Obj}(e:X.base.get? b=some o):b ∉ X.fs:=λhb=>by
 have:=(ok.pH.mem hb).1;rw[e] at this;cases this
theorem Inv.bs(I:Inv X pins σ H s):∀ b o,X.base.get? b=some o->s.heap.get? b=some o/\H b=none:=λb o e=>
 ⟨I.base.keep b o (I.ok.bs b o e).1 (I.ok.bs b o e).2 (I.ok.Ul e) (I.ok.noex b o e),I.base.free b o (I.ok.bs b o e).1 (I.ok.bs b o e).2 (I.ok.noex b o e)⟩
theorem Inv.bk(I:Inv X pins σ H s):∀ b o,X.base.get? b=some o->s.heap.get? b=some o:=λb o e=>(I.bs b o e).1
theorem Inv.mod(I:Inv X pins σ H s):Mod X.K X.mg X.base:=I.ok.mod
theorem Inv.kIn(I:Inv X pins σ H s):X.K.In s.heap:=I.ok.mod.kin.keeps I.bk
theorem Inv.lt(I:Inv X pins σ H s):X.env.locals<s.heap.objs.size:=let⟨_,hn,_⟩:=I.loc;hn.lt
theorem Inv.sz(I:Inv X pins σ H s):X.s₀.heap.objs.size<=s.heap.objs.size:=ZaF I.ok.above (ZaM I.lt)
theorem Inv.XS(I:Inv X pins σ H s){a:Addr}(h:s.heap.objs.size<=a):a ∉ X.fs:=λhb=>by
 obtain⟨_,o,ho,_⟩:=I.ok.pH.mem hb;exact absurd (Zap (Zam ho) (ZaF I.sz h)) (Zbp _)
theorem Inv.cne(I:Inv X pins σ H s):∀ x c,X.env.cells.lookup x=some c->c≠X.env.locals:=λx c e z=>by
 obtain⟨v,o,ho,hd⟩:=I.cell x c e;obtain⟨m,⟨o',es,ep,ho',hd',_⟩,_⟩:=I.loc;rw[z,ho'] at ho;cases ho;rw[hd'] at hd;cases hd
theorem Inv.pH(I:Inv X pins σ H s):s.heap.FunFrames X.base X.outer:=by
 have all:∀ (l:List Env),(∀ b∈frs l,b∈X.fs)->X.s₀.heap.FunFrames X.base l->s.heap.FunFrames X.base l:=by
  intro l;induction l with
  |nil=>intro _ _;trivial
  |cons env r ih=>
   intro hs hl;obtain⟨hk,⟨L,o,hf,hn,ho,hd⟩,hr⟩:=hl;have hL:L∈X.fs:=hs L (by unfold frs;rw[List.filterMap_cons,hf];exact List.mem_cons_self)
   obtain⟨sl,e⟩:=I.base.slot L o ho (I.ok.frf L hL) hL λz=>I.ok.exfs L z hL;exact⟨hk,⟨L,_,hf,hn,e,hd⟩,ih (λb hb=>hs b (by unfold frs;rw[List.filterMap_cons,hf];exact List.mem_cons_of_mem _ hb)) hr⟩
 exact all X.outer (λ_ hb=>hb) I.ok.pH
theorem Inv.stack(I:Inv X pins σ H s):s.heap.FunFrames X.base X.stack:=by
 rcases I.ok.stk with e|⟨e,hf⟩
 ·rw[e];exact I.pH
 ·rw[e];obtain⟨m,hn,_⟩:=I.loc;refine .cons (by rw[I.ok.kind];decide) hf hn ?_ I.pH
  exact Heap.get?_none_of_le (ZaF I.ok.bsz I.ok.above)
theorem Inv.zP(I:Inv X pins σ H s):∀ b∈frs X.stack,b∈X.env.locals::X.fs:=λb hb=>by
 rcases I.ok.stk with e|⟨e,hf⟩
 ·rw[e] at hb;exact List.mem_cons_of_mem _ hb
 ·rw[e] at hb;unfold frs at hb;rw[List.filterMap_cons,hf] at hb;exact hb
theorem Inv.zQ(I:Inv X pins σ H s):∀ b∈frs X.stack,H b=none:=λb hb=>by
 rcases Zaw.mp (I.zP b hb) with e|hb
 ·rw[e];exact I.free
 ·obtain⟨_,o,ho,_⟩:=I.ok.pH.mem hb;exact I.base.free b o ho (I.ok.frf b hb) λz=>I.ok.exfs b z hb
theorem Inv.step{g':Array GenState}{t':Nat}{d':Drawn}{ch:List Addr}(I:Inv X pins σ H s)
  (hch:∀ b∈ch,(b∈X.ex\/X.s₀.heap.objs.size<=b)/\b≠X.env.locals/\(∀ x c,X.env.cells.lookup x=some c->c≠b)/\∀ p∈X.pn++pins,p.1≠b)
  (keep:∀ b o,b≠X.env.locals->b ∉ X.fs->b ∉ ch->s.heap.get? b=some o->H b=none->h'.get? b=some o)
  (slot:∀ b o,b≠X.env.locals->b∈X.fs->b ∉ ch->s.heap.get? b=some o->H b=none->∃ sl,h'.get? b=some { o with slots:=sl })(free:∀ b o,b ∉ ch->s.heap.get? b=some o->H b=none->H' b=none)
  (there:∀ b o,b ∉ ch->s.heap.get? b=some o->∃ o',h'.get? b=some o')
  (tups:∀ b xs,H b=some (.tup xs)->H' b=some (.tup xs))(frzs:∀ b o u,H b=some (.frz o u)->H' b=some (.frz o u))(tbls:∀ b ps,H b=some (.tbl ps)->∃ more,H' b=some (.tbl (ps++more)))
  (ns:∀ m,s.heap.Ns X.env.locals m->h'.Ns X.env.locals m)(hok:HOk X.prog X.w H' h')(hg:AllBare g') :
  Inv X pins σ H' { s with heap:=h',gens:=g',drawn:=d',toks:=t' }:=by
 have neL:∀ b o,X.s₀.heap.get? b=some o->b≠X.env.locals:=λb o e=>ZaD (Zap (Zam e) I.ok.above);have neC:∀ b o,X.s₀.heap.get? b=some o->b ∉ X.ex->b ∉ ch:=λb o e hx hb=>by
  rcases(hch b hb).1 with z|z
  ·exact hx z
  ·exact absurd (Zap (Zam e) z) (Zbp _)
 have cellK:∀ x c,X.env.cells.lookup x=some c->∀ v,s.heap.IsCell c v->h'.IsCell c v:=λx c e v ⟨o,ho,hd⟩=>by
  have nch:c ∉ ch:=λz=>(hch c z).2.2.1 x c e rfl;by_cases hc:c∈X.fs
  ·obtain⟨sl,q⟩:=slot c o (I.cne x c e) hc nch ho (I.freeC x c e);exact⟨_,q,hd⟩
  ·exact⟨o,keep c o (I.cne x c e) hc nch ho (I.freeC x c e),hd⟩
 refine⟨I.ok,I.os,hg,⟨λb o e n hb hx=>?_,λb o e n hb hx=>?_,λb o e n hx=>?_,λb o e hx=>?_,λb xs e=>tups b xs (I.base.tups b xs e),λb o xs e=>frzs b o xs (I.base.frzs b o xs e),λb ps e=>?_⟩,?_,λx c e=>?_,?_,λx c e=>?_,λp hp=>?_,hok,I.len⟩
 ·exact keep b o (neL b o e) hb (neC b o e hx) (I.base.keep b o e n hb hx) (I.base.free b o e n hx)
 ·obtain⟨sl,e1⟩:=I.base.slot b o e n hb hx;obtain⟨sl',e2⟩:=slot b _ (neL b o e) hb (neC b o e hx) e1 (I.base.free b o e n hx);exact⟨sl',e2⟩
 ·obtain⟨o',e1⟩:=I.base.there b o e hx;exact free b o' (neC b o e hx) e1 (I.base.free b o e n hx)
 ·obtain⟨o',e1⟩:=I.base.there b o e hx;exact there b o' (neC b o e hx) e1
 ·obtain⟨m1,e1⟩:=I.base.tbls b ps e;obtain⟨m2,e2⟩:=tbls b _ e1;exact⟨m1++m2,by rw[e2,Array.append_assoc]⟩
 ·obtain⟨m,hn,hl⟩:=I.loc;refine⟨m,ns m hn,λi x v e1 e2 e3=>?_⟩;obtain⟨u,r,l⟩:=hl i x v e1 e2 e3;refine⟨u,r,?_⟩;rcases l with l|⟨k,c,e,z⟩
  ·exact .inl l
  ·exact .inr ⟨k,c,e,cellK x c e _ z⟩
 ·obtain⟨v,z⟩:=I.cell x c e;exact⟨v,cellK x c e v z⟩
 ·obtain⟨m,⟨o,_,_,ho,_⟩,_⟩:=I.loc;exact free _ o (λz=>(hch _ z).2.1 rfl) ho I.free
 ·obtain⟨v,o,ho,hd⟩:=I.cell x c e;exact free c o (λz=>(hch c z).2.2.1 x c e rfl) ho (I.freeC x c e)
 ·obtain⟨e,n,ne,nf,d⟩:=I.pin p hp;have nch:p.1 ∉ ch:=λz=>(hch p.1 z).2.2.2 p hp rfl;exact⟨keep p.1 p.2 ne nf nch e n,free p.1 p.2 nch e n,ne,nf,d⟩
theorem Inv.un{t':Nat}(I:Inv X pins σ H s)(u:Un X.fs [] H H' s.heap h')(hok:HOk X.prog X.w H' h'):Inv X pins σ H' { s with heap:=h',toks:=t' }:=by
 obtain⟨m,⟨o,es,ep,ho,r⟩,_⟩:=id I.loc;obtain⟨sl,hL⟩:=u.any ho I.free (by simp)
 exact I.step (g':=s.gens) (d':=s.drawn) (ch:=[]) (λ_ z=>nomatch z) (λb o _ hb _ e n=>u.keep b o e n hb (by simp)) (λb o _ hb _ e n=>u.slot b o e n hb (by simp)) (λb o _ e n=>u.free b o e n (by simp)) (λb o _ e=>u.there b o e (by simp)) u.tups u.frzs u.tbls (λm' hm=>by
  obtain⟨o',es',ep',ho',r'⟩:=hm;rw[ho] at ho';cases ho';exact⟨_,es',ep',hL,r'⟩) hok I.bare
theorem Inv.call{g':Array GenState}{t':Nat}{d':Drawn}{ch:List Addr}(I:Inv X pins σ H s)(u:Un (frs X.stack) ch H H' s.heap h')(hok:HOk X.prog X.w H' h')(hg:AllBare g')
  (hch:∀ b∈ch,(b∈X.ex\/X.s₀.heap.objs.size<=b)/\b≠X.env.locals/\(∀ x c,X.env.cells.lookup x=some c->c≠b)/\∀ p∈X.pn++pins,p.1≠b) :
  Inv X pins σ H' { s with heap:=h',gens:=g',drawn:=d',toks:=t' }:=by
 obtain⟨m,⟨o,es,ep,ho,r⟩,_⟩:=id I.loc;obtain⟨sl,hL⟩:=u.any ho I.free λz=>(hch _ z).2.1 rfl;exact I.step (ch:=ch) hch (λb o hL hb hc e n=>u.keep b o e n (λz=>(Zaw.mp (I.zP b z)).elim hL hb) hc) (λb o _ _ hc e n=>u.any e n hc) (λb o hc e n=>u.free b o e n hc) (λb o hc e=>u.there b o e hc) u.tups u.frzs u.tbls (λm' hm=>by
  obtain⟨o',es',ep',ho',r'⟩:=hm;rw[ho] at ho';cases ho';exact⟨_,es',ep',hL,r'⟩) hok hg
theorem Inv.turned{t':Nat}{it:Addr}(I:Inv X pins σ H s)(k:∀ b o,b≠it->s.heap.get? b=some o->h'.get? b=some o)(hn:H it=none)(hL:it≠X.env.locals)
  (h1:it∈X.ex\/X.s₀.heap.objs.size<=it)(h2:∀ x c,X.env.cells.lookup x=some c->c≠it)(h3:∀ p∈X.pn++pins,p.1≠it):Inv X pins σ H { s with heap:=h',toks:=t' }:=by
 have nit:∀ b u,H b=some u->b≠it:=λb u e z=>by rw[z,hn] at e;cases e
 refine I.step (g':=s.gens) (d':=s.drawn) (ch:=[it]) (λb hb=>?_) (λb o _ _ hc e _=>k b o (λz=>hc (by simp[z])) e) (λb o _ _ hc e _=>⟨o.slots,k b o (λz=>hc (by simp[z])) e⟩) (λ_ _ _ _ n=>n)
  (λb o hc e=>⟨o,k b o (λz=>hc (by simp[z])) e⟩) (λ_ _ e=>e) (λ_ _ _ e=>e) (λb ps e=>⟨#[],by rw[e];simp⟩) (λm hm=>?_) (λb u e=>?_) I.bare
 ·have e:b=it:=by simpa using hb
  subst e;exact⟨h1,hL,h2,h3⟩
 ·obtain⟨o,es,ep,ho,r⟩:=hm;exact⟨o,es,ep,k _ o (ZaX hL) ho,r⟩
 ·refine(I.hok b u e).stay (λc v hc q=>k c v ?_ q) (λ_ q=>q) λ_ _ q=>q;rcases hc with z|z
  ·rw[z];exact nit b u e
  ·exact nit c _ z
theorem Inv.tok(I:Inv X pins σ H s)(t:Nat):Inv X pins σ H { s with toks:=t }:=I.un (h':=s.heap) (t':=t) Un.refl I.hok
theorem Inv.kept{t':Nat}(I:Inv X pins σ H s)(k:∀ b u,s.heap.get? b=some u->h'.get? b=some u):Inv X pins σ H { s with heap:=h',toks:=t' }:=I.un (Un.kept k) (I.hok.kept k)
theorem Inv.laid{a:Addr}{o:HO}{t':Nat}(I:Inv X pins σ H s)(k:∀ b u,s.heap.get? b=some u->h'.get? b=some u)(hp:s.heap.objs.size<=a)(new:cF X.prog X.w (upd H a o) h' a o) :
  Inv X pins σ (upd H a o) { s with heap:=h',toks:=t' }:=I.un (Un.laid k hp (I.hok.fresh hp)) (I.hok.laid k hp new)
theorem Inv.write{x e:Addr}{o:HO}{t':Nat}(I:Inv X pins σ H s)(mu:Mut (H x))(he:e=x\/H e=some (.own x))(k:∀ b u,b≠e->s.heap.get? b=some u->h'.get? b=some u)(heo:∃ u,h'.get? e=some u)
  (new:cF X.prog X.w (upd H x o) h' x o):Inv X pins σ (upd H x o) { s with heap:=h',toks:=t' }:=I.un (Un.write mu he k heo) (I.hok.write mu he k heo new)
theorem Inv.Ij{pins':List (Addr×Obj)}(I:Inv X pins σ H s)(h:∀ p∈pins',s.heap.get? p.1=some p.2/\H p.1=none/\p.1≠X.env.locals/\p.1 ∉ X.fs/\∀ v,p.2.data≠.cell v):Inv X pins' σ H s:=
 ⟨I.ok,I.os,I.bare,I.base,I.loc,I.cell,I.free,I.freeC,λp hp=>(Zah.mp hp).elim (λz=>I.pin p (List.mem_append_left _ z)) (h p),I.hok,I.len⟩
theorem uZ{N:List Str}(hN:N.Nodup){i j:Nat}{x:Str}(a:N[i]?=some x)(b:N[j]?=some x):i=j:=by
 obtain⟨h1,e1⟩:=Zac.mp a;obtain⟨h2,e2⟩:=Zac.mp b;exact(List.getElem_inj hN).mp (e1.trans e2.symm)
theorem JW{M:Model}{A:Around}{E:Value->Shared->Prop}{i:Nat}{x:Str}{v:V}{u:Value}{Q:Unit->Shared->Prop}(I:Inv X pins σ H s)(hN:X.N.Nodup)(hi:X.N[i]?=some x)(hx:Loc X.env.scope x)(r:RelV v u)
  (h:∀ s',Inv X pins (σ.set i (some v)) H s'->(∃ a,Heap.SameBut a s.heap s'.heap/\(a=X.env.locals\/X.env.cells.lookup x=some a))->Q () s')(hf:X.fn x=true\/X.env.scope.names.lookup x=some .local:=by first|exact .inl rfl|exact .inr rfl|assumption):wpAny M A (storeName X.env x u) Q E s:=by
 obtain⟨m,hn,hl⟩:=id I.loc;have hcls:(X.env.scope.kind==.class||(X.env.scope.kind==.module&&X.env.locals != X.env.globals))=false:=by rw[I.ok.kind];rfl
 have hiσ:i<σ.length:=by rw[I.len];exact(Zac.mp hi).1
 have cne:=I.cne;have tracked:∀ {a:Addr}{h':Heap},(∃ o,s.heap.get? a=some o/\H a=none)->Heap.SameBut a s.heap h'->HOk X.prog X.w H h':=λ{a h'} ha hs b ob e=>by
  obtain⟨_,_,hfree⟩:=ha;refine(I.hok b ob e).stay (λc w' hc q=>(hs.2 c ?_).trans q) (λ_ q=>q) λ_ _ q=>q;rintro rfl;rcases hc with rfl|hc
  ·rw[hfree] at e;cases e
  ·rw[hfree] at hc;cases hc
 rcases hx with hk|hk
 ·refine wpAny_storeName_local hk hn (λh' hn' hs=>?_) hcls;obtain⟨oL,_,_,hoL,_⟩:=id hn;refine h _ ⟨I.ok,I.os,I.bare,⟨λb o e n hb hx=>?_,λb o e n hb hx=>?_,I.base.free,λb o e hx=>?_,I.base.tups,I.base.frzs,I.base.tbls⟩,⟨_,hn',λj y v' e1 e2 e3=>?_⟩,λy c e=>?_,I.free,I.freeC,λp hp=>?_,tracked ⟨oL,hoL,I.free⟩ hs,by simpa using I.len⟩ ⟨_,hs,.inl rfl⟩
  ·exact(hs.2 b (ZaD (Zap (Zam e) I.ok.above))).trans (I.base.keep b o e n hb hx)
  ·obtain⟨sl,e1⟩:=I.base.slot b o e n hb hx;exact⟨sl,(hs.2 b (ZaD (Zap (Zam e) I.ok.above))).trans e1⟩
  ·obtain⟨o',e1⟩:=I.base.there b o e hx;exact⟨o',(hs.2 b (ZaD (Zap (Zam e) I.ok.above))).trans e1⟩
  ·by_cases hj:j=i
   ·subst hj;rw[hi] at e1;cases e1;rw[ZaT hiσ] at e2;cases e2;exact⟨u,r,.inl ⟨hk,by simp⟩⟩
   ·rw[Zak (ZaX hj)] at e2;obtain⟨u',r',q⟩:=hl j y v' e1 e2 e3;refine⟨u',r',?_⟩;rcases q with⟨k,e⟩|⟨k,c,e,z⟩
    ·refine .inl ⟨k,?_⟩;have:y≠x:=λe=>hj (uZ hN e1 (e▸hi));simp[this,e]
    ·exact .inr ⟨k,c,e,z.sameBut hs (cne y c e)⟩
  ·obtain⟨w',z⟩:=I.cell y c e;exact⟨w',z.sameBut hs (cne y c e)⟩
  ·obtain⟨e,n,ne,nf,d⟩:=I.pin p hp;exact⟨(hs.2 p.1 ne).trans e,n,ne,nf,d⟩
 ·have hfn:X.fn x=true:=by
   rcases hf with z|z
   ·exact z
   ·rw[z] at hk;cases hk
  obtain⟨c,hc⟩:=I.ok.has x (.inl hk);obtain⟨w',z⟩:=I.cell x c hc;refine wpAny_storeName_cell I.ok.kind hk hc z (λh' hc' hs=>?_);obtain⟨oc,hoc,hocd⟩:=id z;refine h { s with heap:=h' } ⟨I.ok,I.os,I.bare,⟨λb o e n hb hx=>?_,λb o e n hb hx=>?_,I.base.free,λb o e hx=>?_,I.base.tups,I.base.frzs,I.base.tbls⟩,⟨m,hn.sameBut hs (ZaX (cne x c hc)),λj y v' e1 e2 e3=>?_⟩,λy c' e=>?_,I.free,I.freeC,λp hp=>?_,tracked ⟨oc,hoc,I.freeC x c hc⟩ hs,by simpa using I.len⟩ ⟨c,hs,.inr hc⟩
  ·exact(hs.2 b (ZaD (Zap (Zam e) (I.ok.cab x c hfn hc)))).trans (I.base.keep b o e n hb hx)
  ·obtain⟨sl,e1⟩:=I.base.slot b o e n hb hx;exact⟨sl,(hs.2 b (ZaD (Zap (Zam e) (I.ok.cab x c hfn hc)))).trans e1⟩
  ·obtain⟨o',e1⟩:=I.base.there b o e hx;exact⟨o',(hs.2 b (ZaD (Zap (Zam e) (I.ok.cab x c hfn hc)))).trans e1⟩
  ·by_cases hj:j=i
   ·subst hj;rw[hi] at e1;cases e1;rw[ZaT hiσ] at e2;cases e2;exact⟨u,r,.inr ⟨.inl hk,c,hc,hc'⟩⟩
   ·rw[Zak (ZaX hj)] at e2;obtain⟨u',r',q⟩:=hl j y v' e1 e2 e3;refine⟨u',r',?_⟩;rcases q with q|⟨k,c',e,z'⟩
    ·exact .inl q
    ·refine .inr ⟨k,c',e,z'.sameBut hs ?_⟩;rintro rfl;exact hj (uZ hN e1 (I.ok.inj _ _ _ e hc▸hi))
  ·by_cases hcc:c'=c
   ·subst hcc;exact⟨_,hc'⟩
   ·obtain⟨w2,z2⟩:=I.cell y c' e;exact⟨w2,z2.sameBut hs hcc⟩
  ·obtain⟨e,n,ne,nf,d⟩:=I.pin p hp;refine⟨(hs.2 p.1 ?_).trans e,n,ne,nf,d⟩;intro q;rw[q,hoc] at e;have q':oc=p.2:=Zab e;exact d w' (by rw[<-q'];exact hocd)
theorem u5{M:Model}{A:Around}{E:Value->Shared->Prop}{i:Nat}{x:Str}{v:V}{u:Value}{Q:Unit->Shared->Prop}(I:Inv X pins σ H s)(hN:X.N.Nodup)(hi:X.N[i]?=some x)(hx:Loc X.env.scope x)(r:RelV v u)
  (h:∀ s',Inv X pins (σ.set i (some v)) H s'->Q () s')(hf:X.fn x=true\/X.env.scope.names.lookup x=some .local:=by first|exact .inl rfl|exact .inr rfl|assumption):wpAny M A (storeName X.env x u) Q E s:=
 JW I hN hi hx r (λs' I' _=>h s' I') hf
theorem Inv.call'{s':Shared}{ch:List Addr}(I:Inv X pins σ H s)(ho:s'.os=s.os)(u:Un (frs X.stack) ch H H' s.heap s'.heap)(hok:HOk X.prog X.w H' s'.heap)(hg:AllBare s'.gens)
  (hch:∀ b∈ch,(b∈X.ex\/X.s₀.heap.objs.size<=b)/\b≠X.env.locals/\(∀ x c,X.env.cells.lookup x=some c->c≠b)/\∀ p∈X.pn++pins,p.1≠b):Inv X pins σ H' s':=by
 obtain⟨h',g',d',t',o'⟩:=s';have e:o'=s.os:=ho;subst e;exact I.call (g':=g') (t':=t') (d':=d') u hok hg hch
end
noncomputable abbrev XK:=Value->Option Addr->Hp->Prop
noncomputable abbrev St:=List (Option V)
noncomputable abbrev VK:=V->Hp->Prop
noncomputable abbrev TE:=St->Hp->VK->Prop
noncomputable abbrev TT:=St->Hp->(Bool->Hp->Prop)->Prop
noncomputable abbrev TA:=St->Hp->(List V->Hp->Prop)->Prop
structure Ends where
 nx:St->Hp->Prop
 rt:VK
 bk:St->Hp->Prop:=λ_ _=>False
 ct:St->Hp->Prop:=λ_ _=>False
noncomputable abbrev TS:=Ends->St->Hp->Prop
def EP(X:Cx)(pins:List (Addr×Obj))(σ:St)(Q:VK)(u:Value)(s':Shared):Prop:=∃ v H',Inv X pins σ H' s'/\RelV v u/\Q v H'
def TP(X:Cx)(pins:List (Addr×Obj))(σ:St)(Q:Bool->Hp->Prop)(b:Bool)(s':Shared):Prop:=∃ H',Inv X pins σ H' s'/\Q b H'
def AP(X:Cx)(pins:List (Addr×Obj))(σ:St)(Q:List V->Hp->Prop)(us:List Value)(s':Shared):Prop:=∃ vs H',Inv X pins σ H' s'/\Vals vs us/\Q vs H'
def SP(X:Cx)(pins:List (Addr×Obj))(D:Ends)(f:Flow)(s':Shared):Prop:=
 match f with
 |.next=>∃ σ' H',Inv X pins σ' H' s'/\D.nx σ' H'
 |.brk=>∃ σ' H',Inv X pins σ' H' s'/\D.bk σ' H'
 |.cont=>∃ σ' H',Inv X pins σ' H' s'/\D.ct σ' H'
 |.ret u=>∃ v σ' H',Inv X pins σ' H' s'/\RelV v u/\D.rt v H'
def PE(X:Cx)(e:Expr)(t:TE):Prop:=
 ∀ (pins:List (Addr×Obj)) (s:Shared) (σ:St) (H:Hp) (Q:VK),Inv X pins σ H s->t σ H Q->wpAny (model X.prog X.w) X.A (eval e X.env) (EP X pins σ Q) X.xe s
def PT(X:Cx)(e:Expr)(t:TT):Prop:=
 ∀ (pins:List (Addr×Obj)) (s:Shared) (σ:St) (H:Hp) (Q:Bool->Hp->Prop),Inv X pins σ H s->t σ H Q->wpAny (model X.prog X.w) X.A (isTrue e X.env (eval e X.env)) (TP X pins σ Q) X.xe s
def PW(X:Cx)(e:Expr)(t:TT):Prop:=
 ∀ (whole:Sem Value) (pins:List (Addr×Obj)) (s:Shared) (σ:St) (H:Hp) (Q:Bool->Hp->Prop),Inv X pins σ H s->t σ H Q->wpAny (model X.prog X.w) X.A (isTrue e X.env whole) (TP X pins σ Q) X.xe s
theorem PW.pt{X:Cx}{e:Expr}{t:TT}(h:PW X e t):PT X e t:=h _
def PA(X:Cx)(es:List Expr)(t:TA):Prop:=
 ∀ (pos:Pos) (pins:List (Addr×Obj)) (s:Shared) (σ:St) (H:Hp) (Q:List V->Hp->Prop),Inv X pins σ H s->t σ H Q->wpAny (model X.prog X.w) X.A (spliced (backTo pos (starEach es X.env))) (AP X pins σ Q) X.xe s
def PS(X:Cx)(st:Stmt)(t:TS):Prop:=
 ∀ (pins:List (Addr×Obj)) (s:Shared) (σ:St) (H:Hp) (D:Ends),Inv X pins σ H s->t D σ H->wpAny (model X.prog X.w) X.A (exec st X.env) (SP X pins D) X.xe s
def PSs(X:Cx)(st:List Stmt)(t:TS):Prop:=
 ∀ (pins:List (Addr×Obj)) (s:Shared) (σ:St) (H:Hp) (D:Ends),Inv X pins σ H s->t D σ H->wpAny (model X.prog X.w) X.A (execs st X.env) (SP X pins D) X.xe s
theorem thn{α:Type}{t:Sem α}{Q Q':α->Shared->Prop}{M:Model}{A:Around}{E:Value->Shared->Prop}{s:Shared}(h:wpAny M A t Q E s)(hQ:∀ a s,Q a s->Q' a s):wpAny M A t Q' E s:=Za8 h hQ λ_ _ x=>x
section
variable{X:Cx}
def iZ(i:Nat):TE:=λσ H Q=>∃ v,σ[i]?=some (some v)/\Q v H
def tC(v:V):TE:=λ_ H Q=>Q v H
theorem Gj{i:Nat}{x:Str}{pos:Pos}(hN:X.N[i]?=some x)(hv:Vis X.env.scope x)(hd:(x==("__debug__":Str))=false:=by decide)(hcd:(x==("__classdict__":Str))=false:=by decide):PE X (.Name x pos) (iZ i):=by
 intro pins s σ H Q I h;obtain⟨v,e,h⟩:=h;obtain⟨m,hn,hl⟩:=I.loc;obtain⟨u,r,l⟩:=hl i x v hN e hv;have fin:EP X pins σ Q u s:=⟨v,H,I,r,h⟩;rcases l with⟨hk,hm⟩|⟨hk,c,hc,hcell⟩
 ·exact wpAny_Name (wpAny_loadName_local I.ok.kind hk hn hm fin) hd
 ·rcases hk with hk|hk
  ·exact wpAny_Name (wpAny_loadName_cell I.ok.kind hk hc hcell fin) hd
  ·exact wpAny_Name (wpAny_loadName_free I.ok.kind hk hc hcell fin hcd) hd
theorem aC{i j pos}:PE X (.Constant (.int i) j pos) (tC (.int i)):=λ_ _ _ H _ I h=>wpAny_Constant_int ⟨.int i,H,I.tok _,⟨_,rfl⟩,h⟩
theorem u6{b j pos}:PE X (.Constant (.bool b) j pos) (tC (.bl b)):=λ_ _ _ H _ I h=>Constant_bool ⟨.bl b,H,I,rfl,h⟩
theorem mG{j pos}:PE X (.Constant .none j pos) (tC .non):=λ_ _ _ H _ I h=>Constant_none ⟨.non,H,I,rfl,h⟩
def Gl(X:Cx)(x:Str):Prop:=X.env.kindOf x=some .globalImplicit
theorem qu{E:Value->Shared->Prop}{pins:List (Addr×Obj)}{s:Shared}{σ:St}{H:Hp}{x:Str}{u:Value}{pos:Pos}{Q:Value->Shared->Prop}(I:Inv X pins σ H s)(hg:Gl X x)(hm:X.mg x=some u)(h:Q u s)
  (hd:(x==("__debug__":Str))=false:=by decide):wpAny (model X.prog X.w) X.A (eval (.Name x pos) X.env) Q E s:=
 Calls.Name_function_global I.ok.kind hg (Calls.loadGlobal_global (by rw[I.ok.glob];exact I.mod.glob.keeps I.bk) hm h) hd
theorem pI{E:Value->Shared->Prop}{pins:List (Addr×Obj)}{s:Shared}{σ:St}{H:Hp}{x:Str}{u:Value}{pos:Pos}{Q:Value->Shared->Prop}(I:Inv X pins σ H s)(hg:Gl X x)(hm:X.mg x=none)(hv:bootBuiltins x=some u)(h:Q u s)
  (hn:x≠"__name__":=by decide)(hd:(x==("__debug__":Str))=false:=by decide):wpAny (model X.prog X.w) X.A (eval (.Name x pos) X.env) Q E s:=by
 obtain⟨mb,h1,h2⟩:=I.mod.blt;exact Calls.Name_function_global I.ok.kind hg (Calls.loadGlobal_builtin (by rw[I.ok.glob];exact I.mod.glob.keeps I.bk) hm (by rw[I.ok.blt];exact h1.keeps I.bk) ((h2 x hn).trans hv) h) hd
theorem Ik{x:Str}{v:V}{u:Value}{pos:Pos}(hg:Gl X x)(hm:X.mg x=some u)(r:RelV v u)(hd:(x==("__debug__":Str))=false:=by decide):PE X (.Name x pos) (tC v):=
 λ_ _ _ H _ I h=>qu I hg hm ⟨v,H,I,r,h⟩ hd
theorem Qq{x:Str}{v:V}{u:Value}{pos:Pos}(hg:Gl X x)(hm:X.mg x=none)(hv:bootBuiltins x=some u)(r:RelV v u)(hn:x≠"__name__":=by decide)(hd:(x==("__debug__":Str))=false:=by decide):PE X (.Name x pos) (tC v):=
 λ_ _ _ H _ I h=>pI I hg hm hv ⟨v,H,I,r,h⟩ hn hd
variable{a b:Expr}{ta tb:TE}{pos:Pos}
def tB(t:TE):TT:=λσ H Q=>t σ H λx H1=>∃ c,x=.bl c/\Q c H1
theorem jb{e:Expr}{t:TE}(h:PE X e t)(he:∀ whole,isTrue e X.env whole=(do let v <-whole;standAt e.pos;holding [v] (truthy v)):=by intro _;rfl):PT X e (tB t):=by
 intro pins s σ H Q I hw;refine isTrue_plain (thn (h pins s σ H _ I hw) ?_) (he _);rintro v s1 ⟨x,H1,I1,r1,q1⟩;obtain⟨d,rfl,q⟩:=q1;cases r1;exact wpAny_truthy_bool ⟨H1,I1,q⟩
variable{tA tB':TT}{rest:List Expr}
def tOr(t u:TT):TT:=λσ H Q=>t σ H λc H1=>if c=true then Q true H1 else u σ H1 Q
def Wi(t:TT):TT:=λσ H Q=>t σ H λc H1=>Q (!c) H1
theorem zR(ha:PT X a tA):PW X (.BoolOp .Or [a] pos) tA:=by
 intro wh pins s σ H Q I h;refine isTrue_or (thn (ha pins s σ H Q I h) λc s1 e=>?_);cases c with
 |false=>exact isTrue_or_nil e
 |true=>exact e
theorem yr(ha:PT X a tA)(hb:PW X (.BoolOp .Or (b::rest) pos) tB'):PW X (.BoolOp .Or (a::b::rest) pos) (tOr tA tB'):=by
 intro wh pins s σ H Q I h;refine isTrue_or (thn (ha pins s σ H _ I h) ?_);rintro c s1 ⟨H1,I1,q1⟩;cases c with
 |true=>exact⟨H1,I1,q1⟩
 |false=>exact hb wh pins s1 σ H1 Q I1 q1
theorem zT(ha:PT X a tA):PT X (.UnaryOp .Not a pos) (Wi tA):=by
 intro pins s σ H Q I h;exact isTrue_not (ha pins s σ H (λc H1=>Q (!c) H1) I h)
def tIf(t:TT)(ta tb:TE):TE:=λσ H Q=>t σ H λc H1=>if c=true then ta σ H1 Q else tb σ H1 Q
theorem Cy{c:Expr}(hc:PT X c tA)(ha:PE X a ta)(hb:PE X b tb):PE X (.IfExp c a b pos) (tIf tA ta tb):=by
 intro pins s σ H Q I h;refine wpAny_IfExp (thn (hc pins s σ H _ I h) ?_);rintro d s1 ⟨H1,I1,q1⟩;cases d with
 |true=>exact ha pins s1 σ H1 Q I1 q1
 |false=>exact hb pins s1 σ H1 Q I1 q1
end
def SqL(K:PySem.W.Frag)(H:Hp)(a:Addr)(xs:List V):Prop:=
 Rd H a (.lst xs) \/
  ∃ (o:Obj) (its:Array Value) (n:Nat),K.lookup a=some o/\o.cls=.type "list"/\o.dict=none/\o.data=.seq its n/\its.size<=sizeLine/\Vals xs its.toList
def SqT(K:PySem.W.Frag)(H:Hp)(a:Addr)(xs:List V):Prop:=
 Rd H a (.tup xs) \/
  ∃ (o:Obj) (its:Array Value) (n:Nat),K.lookup a=some o/\o.cls=.type "tuple"/\o.data=.seq its n/\its.size<=sizeLine/\Vals xs its.toList
def XX:Value->Option V
 |.none=>some .non
 |.bool b=>some (.bl b)
 |.int i _=>some (.int i)
 |.str x _=>some (.str x)
 |.bytes b _=>some (.byt b)
 |.float b _=>some (.flt b)
 |.ref a=>some (.ref a)
 |.type n=>some (.ty n)
 |_=>none
theorem RelV.abs{x:V}{u:Value}(r:RelV x u):XX u=some x:=by
 cases x with
 |non=>cases r;rfl
 |bl _=>cases r;rfl
 |int _=>obtain⟨t,rfl⟩:=r;rfl
 |str _=>obtain⟨t,rfl⟩:=r;rfl
 |byt _=>obtain⟨t,rfl⟩:=r;rfl
 |flt _=>obtain⟨t,rfl⟩:=r;rfl
 |ref _=>cases r;rfl
 |ty _=>cases r;rfl
theorem RelV.inj{x y:V}{u:Value}(r:RelV x u)(q:RelV y u):x=y:=Zab (r.abs.symm.trans q.abs)
theorem Vals.inj:∀ {xs ys:List V}{us:List Value},Vals xs us->Vals ys us->xs=ys
 |_,_,_,.nil,.nil=>rfl
 |_,_,_,.cons r t,.cons r' t'=>by rw[r.inj r',Vals.inj t t']
section
variable{X:Cx}{pins:List (Addr×Obj)}{σ:St}{H:Hp}{s:Shared}{a:Addr}{xs ys:List V}
theorem SqL.of{K:PySem.W.Frag}(h:H a=some (.lst xs)):SqL K H a xs:=.inl (.inl h)
theorem SqT.of{K:PySem.W.Frag}(h:H a=some (.tup xs)):SqT K H a xs:=.inl (.inl h)
theorem Inv.list(I:Inv X pins σ H s)(h:SqL X.K H a xs):∃ its:List Value,Vals xs its/\PlainL s.heap a its.toArray/\xs.length<=sizeLine:=by
 rcases h with h|⟨o,its,n,hk,hc,hd,hs,hz,r⟩
 ·obtain⟨z,its,n,r,e⟩:=h.ok I.hok;exact⟨its,r,⟨_,n,e,rfl,rfl,rfl⟩,z⟩
 ·refine⟨its.toList,r,⟨o,n,I.kIn a o hk,hc,hd,by simpa using hs⟩,?_⟩
  have e:=r.length;simp only[Za3] at e;lia
theorem Inv.tuple(I:Inv X pins σ H s)(h:SqT X.K H a xs):∃ its:List Value,Vals xs its/\IsTup s.heap a its.toArray/\xs.length<=sizeLine:=by
 rcases h with h|⟨o,its,n,hk,hc,hs,hz,r⟩
 ·obtain⟨z,its,r,p⟩:=h.ok I.hok;exact⟨its,r,p.1,z⟩
 ·refine⟨its.toList,r,⟨o,I.kIn a o hk,hc,n,by simpa using hs⟩,?_⟩
  have e:=r.length;simp only[Za3] at e;omega
theorem Inv.mH(I:Inv X pins σ H s)(h:SqL X.K H a xs)(h':SqL X.K H a ys):xs=ys:=by
 obtain⟨its,r,⟨o,n,e,_,_,d⟩,_⟩:=I.list h;obtain⟨its',r',⟨o',n',e',_,_,d'⟩,_⟩:=I.list h';rw[e] at e';cases e';rw[d] at d';injection d' with d1 _
 have:its=its':=by simpa using Zbd Array.toList d1
 subst this;exact r.inj r'
theorem Inv.yt(I:Inv X pins σ H s)(h:SqT X.K H a xs)(h':SqT X.K H a ys):xs=ys:=by
 obtain⟨its,r,⟨o,e,_,n,d⟩,_⟩:=I.tuple h;obtain⟨its',r',⟨o',e',_,n',d'⟩,_⟩:=I.tuple h';rw[e] at e';cases e';rw[d] at d';injection d' with d1 _
 have:its=its':=by simpa using Zbd Array.toList d1
 subst this;exact r.inj r'
end
noncomputable abbrev Cx.wish(X:Cx)(E:Value->Shared->Prop):Cx:={ X with xe:=E }
noncomputable abbrev Cx.nox(X:Cx):Cx:=X.wish λ_ _=>False
theorem Cx.Ok.wish{X:Cx}(ok:X.Ok)(E:Value->Shared->Prop):(X.wish E).Ok:=
 ⟨ok.mod,ok.kind,ok.glob,ok.blt,ok.above,ok.inj,ok.has,ok.cab,ok.hd,ok.frames,ok.stk,ok.exf,ok.bs,ok.bsz,ok.noex,ok.exfs,ok.pH,ok.frf⟩
theorem Cx.Ok.jc{X:Cx}{E:Value->Shared->Prop}(ok:(X.wish E).Ok):X.Ok:=
 ⟨ok.mod,ok.kind,ok.glob,ok.blt,ok.above,ok.inj,ok.has,ok.cab,ok.hd,ok.frames,ok.stk,ok.exf,ok.bs,ok.bsz,ok.noex,ok.exfs,ok.pH,ok.frf⟩
section
variable{X:Cx}{pins:List (Addr×Obj)}{σ:St}{H:Hp}{s:Shared}{E:Value->Shared->Prop}
theorem Inv.wish(I:Inv X pins σ H s)(E:Value->Shared->Prop):Inv (X.wish E) pins σ H s:=⟨I.ok.wish E,I.os,I.bare,I.base,I.loc,I.cell,I.free,I.freeC,I.pin,I.hok,I.len⟩
theorem Inv.jc(I:Inv (X.wish E) pins σ H s):Inv X pins σ H s:=⟨I.ok.jc,I.os,I.bare,I.base,I.loc,I.cell,I.free,I.freeC,I.pin,I.hok,I.len⟩
theorem SP.jc{D:Ends}{f:Flow}{s':Shared}(h:SP (X.wish E) pins D f s'):SP X pins D f s':=by
 cases f with
 |next=>obtain⟨σ',H',I,q⟩:=h;exact⟨σ',H',I.jc,q⟩
 |brk=>obtain⟨σ',H',I,q⟩:=h;exact⟨σ',H',I.jc,q⟩
 |cont=>obtain⟨σ',H',I,q⟩:=h;exact⟨σ',H',I.jc,q⟩
 |ret u=>obtain⟨v,σ',H',I,r,q⟩:=h;exact⟨v,σ',H',I.jc,r,q⟩
theorem PSs.nox{st:List Stmt}{t:TS}(h:PSs X.nox st t):PSs X st t:=λpins s σ H D I hw=>
 Za8 (h pins s σ H D (I.wish _) hw) (λ_ _ q=>q.jc) λ_ _ z=>False.elim z
end
section
variable{X:Cx}{st:Stmt}{rest:List Stmt}{t u:TS}{e:Expr}{te:TE}{pos:Pos}
def SQ:TS:=λD σ H=>D.nx σ H
def Qs(t u:TS):TS:=λD σ H=>t { D with nx:=u D } σ H
theorem cM:PSs X [] SQ:=λ_ _ σ H _ I h=>wpAny_execs_nil ⟨σ,H,I,h⟩
theorem aB(h1:PS X st t)(h2:PSs X rest u):PSs X (st::rest) (Qs t u):=by
 intro pins s σ H D I h;refine wpAny_execs_cons (thn (h1 pins s σ H { D with nx:=u D } I h) λf s1 q=>?_);cases f with
 |next=>
  obtain⟨σ',H',I',q⟩:=q;exact h2 pins s1 σ' H' D I' q
 |ret v=>exact q
 |brk=>exact q
 |cont=>exact q
theorem aO(h1:PS X st t):PSs X [st] t:=by
 intro pins s σ H D I h;refine wpAny_execs_cons (thn (h1 pins s σ H D I h) λf s1 q=>?_);cases f with
 |next=>exact wpAny_execs_nil q
 |ret v=>exact q
 |brk=>exact q
 |cont=>exact q
def SX:TS:=λD σ H=>D.ct σ H
theorem Cz:PS X (.Continue pos) SX:=λ_ _ σ H _ I h=>wpAny_Continue ⟨σ,H,I,h⟩
theorem Inv.quiet{pins:List (Addr×Obj)}{σ:St}{H:Hp}{s:Shared}(I:Inv X pins σ H s):interactive X.env=false:=by simp[interactive,I.ok.kind]
def yu(te:TE):TS:=λD σ H=>te σ H λ_ H1=>D.nx σ H1
theorem zU(he:PE X e te)(hs:swapsWith e none pos.line X.env=pure false:=by rfl):PS X (.Expr e pos) (yu te):=by
 intro pins s σ H D I h;exact wpAny_Expr_any (thn (he pins s σ H _ I h) λv s1 ⟨x,H1,I1,r1,q1⟩=>⟨σ,H1,I1,q1⟩) I.quiet hs
def JX(te:TE):TS:=λD σ H=>te σ H D.rt
theorem bj(he:PE X e te):PS X (.Return (some e) pos) (JX te):=by
 intro pins s σ H D I h;exact wpAny_Return_some (thn (he pins s σ H _ I h) λv s1 ⟨x,H1,I1,r1,q1⟩=>⟨x,σ,H1,I1,r1,q1⟩)
def Wj(c:TT)(t u:TS):TS:=λD σ H=>c σ H λb H1=>if b=true then t D σ H1 else u D σ H1
theorem gr{c:Expr}{a b:List Stmt}{tc:TT}(hc:PT X c tc)(ha:PSs X a t)(hb:PSs X b u):PS X (.If c a b pos) (Wj tc t u):=by
 intro pins s σ H D I h;refine wpAny_If (thn (hc pins s σ H _ I h) ?_);rintro d s1 ⟨H1,I1,q1⟩;cases d with
 |true=>exact ha pins s1 σ H1 D I1 q1
 |false=>exact hb pins s1 σ H1 D I1 q1
end
noncomputable abbrev TG:=V->St->Hp->(St->Hp->Prop)->Prop
noncomputable abbrev TGs:=List V->St->Hp->(St->Hp->Prop)->Prop
def PG(X:Cx)(target:Expr)(t:TG):Prop:=
 ∀ (pins:List (Addr×Obj)) (s:Shared) (σ:St) (H:Hp) (v:V) (u:Value) (Q:St->Hp->Prop),Inv X pins σ H s->RelV v u->t v σ H Q ->
  wpAny (model X.prog X.w) X.A (assign target X.env u) (λ_ s'=>∃ σ' H',Inv X pins σ' H' s'/\Q σ' H') X.xe s
def PGs(X:Cx)(ts:List Expr)(t:TGs):Prop:=
 ∀ (pins:List (Addr×Obj)) (s:Shared) (σ:St) (H:Hp) (vs:List V) (us:List Value) (Q:St->Hp->Prop),Inv X pins σ H s->Vals vs us->t vs σ H Q ->
  wpAny (model X.prog X.w) X.A (assignInOrder ((assignEach ts X.env).map (·.2)) us) (λ_ s'=>∃ σ' H',Inv X pins σ' H' s'/\Q σ' H') X.xe s
section
variable{X:Cx}{pos:Pos}
def u9(i:Nat):TG:=λv σ H Q=>Q (σ.set i (some v)) H
theorem eE{i:Nat}{x:Str}(hN:X.N.Nodup)(hi:X.N[i]?=some x)(hx:Loc X.env.scope x)(hf:X.fn x=true\/X.env.scope.names.lookup x=some .local:=by first|exact .inl rfl|exact .inr rfl|assumption):PG X (.Name x pos) (u9 i):=by
 intro pins s σ H v u Q I r h;exact wpAny_assign_Name (u5 I hN hi hx r (λs' I'=>⟨_,H,I',h⟩) hf)
def Wl:TGs:=λvs σ H Q=>vs=[]/\Q σ H
def S8(t:TG)(u:TGs):TGs:=λvs σ H Q=>∃ v r,vs=v::r/\t v σ H λσ' H'=>u r σ' H' Q
theorem uB:PGs X [] Wl:=by
 intro pins s σ H vs us Q I r h;obtain⟨e,h⟩:=h;subst e;cases r;exact assignInOrder_nil ⟨σ,H,I,h⟩
theorem gW{e:Expr}{es:List Expr}{t:TG}{u:TGs}(h1:PG X e t)(h2:PGs X es u)
  (hs:(assignEach (e::es) X.env).map (·.2)=assign e X.env::(assignEach es X.env).map (·.2):=by rfl):PGs X (e::es) (S8 t u):=by
 intro pins s σ H vs us Q I r h;obtain⟨v,vr,e1,h⟩:=h;subst e1;cases r with
 |cons r rr=>
  rw[hs];refine assignInOrder_cons (thn (h1 pins s σ H _ _ _ I r h) ?_);rintro _ s1 ⟨σ1,H1,I1,q1⟩;exact h2 pins s1 σ1 H1 _ _ Q I1 rr q1
def Um(K:PySem.W.Frag)(n:Nat)(t:TGs):TG:=λv σ H Q=>∃ a xs,v=.ref a/\SqT K H a xs/\xs.length=n/\t xs σ H Q
theorem Uo{es:List Expr}{k:Nat}{t:TGs}{n:Nat}(hc:X.calm=true)(h:PGs X es t)
  (hn:(assignEach es X.env).length=n:=by rfl)(hst:(assignEach es X.env).findIdx? (·.1)=none:=by rfl):PG X (.Tuple es k pos) (Um X.K n t):=by
 intro pins s σ H v u Q I r hw;obtain⟨a,xs,e1,hq,hl,hw⟩:=hw;subst e1;cases r;obtain⟨its,rv,ht,hz⟩:=I.tuple hq;refine assign_Tuple_tuple (I.ok.hd hc) ht (by simp[hn,<-hl,rv.length]) hst λh' hx=>?_
 have I1:Inv X pins σ H { s with heap:=h' }:=I.kept (t':=s.toks) λb o e=>hx b o (ZaD (Zam e)) e;exact h pins _ σ H xs _ Q I1 (by simpa using rv) hw
def LK(te:TE)(g:TG):TS:=λD σ H=>te σ H λx H1=>g x σ H1 D.nx
theorem aX{i:Nat}{x:Str}{e:Expr}{te:TE}{pos':Pos}(hN:X.N.Nodup)(hi:X.N[i]?=some x)(hx:Loc X.env.scope x)(he:PE X e te)(hs:swapsWith e (some (.Name x pos')) pos.line X.env=pure false:=by rfl)(hf:X.fn x=true\/X.env.scope.names.lookup x=some .local:=by first|exact .inl rfl|exact .inr rfl|assumption) :
  PS X (.Assign [.Name x pos'] e pos) (LK te (u9 i)):=by
 intro pins s σ H D I h;refine wpAny_Assign_Name (thn (he pins s σ H _ I h) ?_) hs;rintro v s1 ⟨y,H1,I1,r1,q1⟩;exact u5 I1 hN hi hx r1 (λs2 I2=>⟨_,H1,I2,q1⟩) hf
end
section
variable{X:Cx}{pos:Pos}
def Gk(c:TT)(tb:TS):TS:=λD σ H=>∃ W:Nat->St->Hp->Prop,(∃ m,W m σ H)/\∀ m σ H,W m σ H ->
 c σ H λb H1=>if b=true then ∃ N:St->Hp->Prop,(∀ σ' H',N σ' H'->∃ m',m'<m/\W m' σ' H')/\tb { D with nx:=N,ct:=N,bk:=D.nx } σ H1 else D.nx σ H1
theorem CG{c:Expr}{body:List Stmt}{tc:TT}{tb:TS}(hp:PassesOwn (model X.prog X.w) X.A X.env X.xe)(hc:PT X c tc)(hb:PSs X body tb):PS X (.While c body [] pos) (Gk tc tb):=by
 intro pins s σ H D I h;obtain⟨W,⟨m0,w0⟩,turn⟩:=h;refine wpAny_While (codeAny_whileLoop (λn s'=>∃ σ' H',Inv X pins σ' H' s'/\W n σ' H') ?_ m0 ⟨σ,H,I,w0⟩);rintro n s1 ⟨σ1,H1,I1,w1⟩;refine wpAny_passesOwn hp (thn (hc pins s1 σ1 H1 _ I1 (turn n σ1 H1 w1)) ?_);rintro b s2 ⟨H2,I2,q2⟩;cases b with
 |true=>
  obtain⟨N,hN,q2⟩:=q2;rw[Zag rfl];refine wpAny_passesOwn hp (thn (hb pins s2 σ1 H2 _ I2 q2) λf s3 q3=>?_);cases f with
  |next=>
   obtain⟨σ3,H3,I3,n3⟩:=q3;obtain⟨m',hm,w3⟩:=hN σ3 H3 n3;exact⟨m',hm,σ3,H3,I3,w3⟩
  |cont=>
   obtain⟨σ3,H3,I3,n3⟩:=q3;obtain⟨m',hm,w3⟩:=hN σ3 H3 n3;exact⟨m',hm,σ3,H3,I3,w3⟩
  |brk=>exact q3
  |ret v=>exact q3
 |false=>
  rw[Zae Zbf];exact wpAny_execs_nil ⟨σ1,H2,I2,q2⟩
end
structure It where
 go:Nat->Hp->Prop
 yld:Nat->Hp->V->Hp->Prop
 stop:Nat->Hp->Prop
def vd(X:Cx)(pins:List (Addr×Obj))(H:Hp)(b:Addr):Prop:=
 H b=none/\b≠X.env.locals/\b ∉ X.fs/\(b∈X.ex\/X.s₀.heap.objs.size<=b)/\(∀ x c,X.env.cells.lookup x=some c->c≠b)/\∀ p∈X.pn++pins,p.1≠b
theorem Inv.CJ{X:Cx}{pins:List (Addr×Obj)}{σ:St}{H H':Hp}{s:Shared}{b:Addr}(I:Inv X pins σ H s)(hb:s.heap.objs.size<=b)(hn:H' b=none):vd X pins H' b:=by
 refine⟨hn,ZbX (Zap I.lt hb),I.XS hb,.inr (ZaF I.sz hb),λx c e z=>?_,λp hp z=>?_⟩
 ·obtain⟨v,q⟩:=I.cell x c e;exact absurd (Zap q.lt (by rw[z];exact hb)) (Zbp _)
 ·exact absurd (Zap (Zam (I.pin p hp).1) (by rw[z];exact hb)) (Zbp _)
structure Turn(P:Program)(w:World)(K:PySem.W.Frag)(tg:Expr)(J:It)(fp:List Addr)(it:Addr)(tn:Nat->Heap->Prop):Prop where
 mem:it∈fp
 obj:∀ i h,tn i h->∀ b∈fp,∃ o,h.get? b=some o/\∀ v,o.data≠.cell v
 keep:∀ i h h',tn i h->(∀ b∈fp,∀ o,h.get? b=some o->h'.get? b=some o)->tn i h'
 item:∀ (X:Cx),X.prog=P->X.w=w->X.K=K->X.calm=true->∀ (i:Nat) (pins:List (Addr×Obj)) (s:Shared) (σ:St) (H:Hp) (E:Value->Shared->Prop),Inv X pins σ H s->(∀ b∈fp,vd X pins H b)->tn i s.heap->J.go i H ->
  wpAny (model P w) X.A (pyNext (.ref it)) (λr s1=>∃ u,r=some u /\
   wpAny (model P w) X.A (letOwnedTupleGo tg (.ref it) u) (λ_ s2=>∃ x H',Inv X pins σ H' s2/\RelV x u/\J.yld i H x H'/\tn (i+1) s2.heap/\∀ b∈fp,H' b=none) E s1) E s
 done:∀ (X:Cx),X.prog=P->X.w=w->X.K=K->X.calm=true->∀ (i:Nat) (pins:List (Addr×Obj)) (s:Shared) (σ:St) (H:Hp) (E:Value->Shared->Prop),Inv X pins σ H s->(∀ b∈fp,vd X pins H b)->tn i s.heap->J.stop i H ->
  wpAny (model P w) X.A (pyNext (.ref it)) (λr s1=>r=none/\Inv X pins σ H s1) E s
 self:∀ (A:Around) (i:Nat) (s:Shared) (Q:Value->Shared->Prop) (E:Value->Shared->Prop),tn i s.heap->Q (.ref it) s->wpAny (model P w) A (pyIter (.ref it)) Q E s
noncomputable abbrev TI:=St->Hp->(It->Hp->Prop)->Prop
def PIE(X:Cx)(pins:List (Addr×Obj))(σ:St)(tg:Expr)(R:It->Hp->Prop)(itv:Value)(s2:Shared):Prop:=
 ∃ (it:Addr) (fp:List Addr) (tn:Nat->Heap->Prop) (J:It) (H':Hp),itv=.ref it/\Inv X pins σ H' s2/\Turn X.prog X.w X.K tg J fp it tn/\tn 0 s2.heap/\(∀ b∈fp,vd X pins H' b)/\R J H'
def PI(X:Cx)(tg iter:Expr)(wi:TI):Prop:=
 ∀ (pins:List (Addr×Obj)) (s:Shared) (σ:St) (H:Hp) (R:It->Hp->Prop),Inv X pins σ H s->wi σ H R ->
  wpAny (model X.prog X.w) X.A (eval iter X.env) (λv s1=>wpAny (model X.prog X.w) X.A (pyIter v) (PIE X pins σ tg R) X.xe s1) X.xe s
theorem CK{M:Model}{A:Around}{E:Value->Shared->Prop}{s:Shared}{tg:Expr}{it:Addr}{u:Value}{o:Obj}{n:String}{vs:Array Value}{Q:Unit->Shared->Prop}(ho:s.heap.get? it=some o)(hc:o.cls=.type n)(hd:o.data=.fields vs)
  (hn:["enumerate","zip","dict_itemiterator","dict_reverseitemiterator","odict_iterator","itertools.zip_longest","itertools.pairwise"].contains n=false)(hQ:Q () s):wpAny M A (letOwnedTupleGo tg (.ref it) u) Q E s:=by
 unfold letOwnedTupleGo;cases tg<;>first
  |exact Zaf hQ
  |(cases u<;>first
    |exact Zaf hQ
    |(refine Zaa (wpAny_load ho ?_)
      rw[hc,hd];show wpAny M A (if(["enumerate","zip","dict_itemiterator","dict_reverseitemiterator","odict_iterator","itertools.zip_longest","itertools.pairwise"].contains n&&vs[0]?==some (rawInt _))=true then _ else _) Q E s
      rw[Zae (by intro h;rw[hn,Bool.false_and] at h;cases h)]
      exact Zaf hQ))
def Itl(K:PySem.W.Frag)(a:Addr):It:=
 ⟨λi H=>∃ xs x,SqL K H a xs/\xs[i]?=some x,λi H x H'=>H'=H/\∀ xs,SqL K H a xs->xs[i]?=some x,λi H=>∃ xs,SqL K H a xs/\xs.length<=i⟩
def Itt(K:PySem.W.Frag)(a:Addr):It:=
 ⟨λi H=>∃ xs x,SqT K H a xs/\xs[i]?=some x,λi H x H'=>H'=H/\∀ xs,SqT K H a xs->xs[i]?=some x,λi H=>∃ xs,SqT K H a xs/\xs.length<=i⟩
def Itr(lo:Int)(n:Nat):It:=⟨λi _=>i<n,λi H x H'=>H'=H/\x=.int (lo+i),λi _=>n<=i⟩
theorem JZ{P:Program}{w:World}{K:PySem.W.Frag}{tg:Expr}(a it:Addr):Turn P w K tg (Itl K a) [it] it (λi h=>h.IsListIter it a i) where
 mem:=by simp
 obj:=λi h st b hb=>by
  have e:b=it:=by simpa using hb
  subst e;obtain⟨o,e,c,d⟩:=st;exact⟨o,e,λv z=>by rw[d] at z;cases z⟩
 keep:=λi h h' st k=>st.at λo e=>k it (by simp) o e
 item:=by
  intro X hP hw hK hc i pins s σ H E I hf st hg;subst hP hw hK;obtain⟨xs,x,hq,hx⟩:=hg;obtain⟨its,rv,p,hz⟩:=I.list hq;obtain⟨u,hu,ru⟩:=rv.get hx;obtain⟨f0,f1,f2,f3,f4,f5⟩:=hf it (by simp)
  refine wpAny_pyNext_list_item st p.isList (x:=u) (by simpa using hu) λh' st' sb=>?_
  have I1:Inv X pins σ H { s with heap:=h' }:=I.turned (t':=s.toks) (λb o hb e=>(sb.2 b hb).trans e) f0 f1 f3 f4 f5;obtain⟨o,e,c,d⟩:=id st';exact⟨u,rfl,CK (s:={ s with heap:=h' }) e c d (by decide) ⟨x,H,I1,ru,⟨rfl,λys hy=>by rw[I.mH hy hq];exact hx⟩,st',λb hb=>(hf b hb).1⟩⟩
 done:=by
  intro X hP hw hK hc i pins s σ H E I hf st hg;subst hP hw hK;obtain⟨xs,hq,hx⟩:=hg;obtain⟨its,rv,p,hz⟩:=I.list hq;obtain⟨f0,f1,f2,f3,f4,f5⟩:=hf it (by simp)
  have hl:=rv.length;exact wpAny_pyNext_list_end (I.ok.hd hc) st p.isList (by simp;lia) λh' eb=>⟨rfl,I.turned (t':=s.toks) (λb o hb e=>eb b o hb e) f0 f1 f3 f4 f5⟩
 self:=λ_ _ _ _ _ st h=>wpAny_pyIter_listiter st h
theorem Gm{P:Program}{w:World}{K:PySem.W.Frag}{tg:Expr}(a it:Addr):Turn P w K tg (Itt K a) [it] it (λi h=>h.IsTupleIter it a i) where
 mem:=by simp
 obj:=λi h st b hb=>by
  have e:b=it:=by simpa using hb
  subst e;obtain⟨o,e,c,d⟩:=st;exact⟨o,e,λv z=>by rw[d] at z;cases z⟩
 keep:=λi h h' st k=>st.at λo e=>k it (by simp) o e
 item:=by
  intro X hP hw hK hc i pins s σ H E I hf st hg;subst hP hw hK;obtain⟨xs,x,hq,hx⟩:=hg;obtain⟨its,rv,p,hz⟩:=I.tuple hq;obtain⟨u,hu,ru⟩:=rv.get hx;obtain⟨f0,f1,f2,f3,f4,f5⟩:=hf it (by simp)
  refine wpAny_pyNext_tuple_item st (show s.heap.IsTuple a its.toArray from p) (x:=u) (by simpa using hu) λh' st' sb=>?_
  have I1:Inv X pins σ H { s with heap:=h' }:=I.turned (t':=s.toks) (λb o hb e=>(sb.2 b hb).trans e) f0 f1 f3 f4 f5;obtain⟨o,e,c,d⟩:=id st';exact⟨u,rfl,CK (s:={ s with heap:=h' }) e c d (by decide) ⟨x,H,I1,ru,⟨rfl,λys hy=>by rw[I.yt hy hq];exact hx⟩,st',λb hb=>(hf b hb).1⟩⟩
 done:=by
  intro X hP hw hK hc i pins s σ H E I hf st hg;subst hP hw hK;obtain⟨xs,hq,hx⟩:=hg;obtain⟨its,rv,p,hz⟩:=I.tuple hq;obtain⟨f0,f1,f2,f3,f4,f5⟩:=hf it (by simp)
  have hl:=rv.length;exact wpAny_pyNext_tuple_end (I.ok.hd hc) st (show s.heap.IsTuple a its.toArray from p) (by simp;omega) λh' eb=>⟨rfl,I.turned (t':=s.toks) (λb o hb e=>eb b o hb e) f0 f1 f3 f4 f5⟩
 self:=λ_ _ _ _ _ st h=>wpAny_pyIter_tupleiter st h
theorem Gn{P:Program}{w:World}{K:PySem.W.Frag}{tg:Expr}(it:Addr)(lo:Int)(n:Nat):Turn P w K tg (Itr lo n) [it] it (λi h=>IsRangeIter h it (lo+(i:Nat)*1) ((n:Int)-(i:Nat)) 1) where
 mem:=by simp
 obj:=λi h st b hb=>by
  have e:b=it:=by simpa using hb
  subst e;exact⟨_,st,λv z=>by
   have z':Data.fields _=Data.cell v:=z;cases z'⟩
 keep:=λi h h' st k=>k it (by simp) _ st
 item:=by
  intro X hP hw hK hc i pins s σ H E I hf st hg;subst hP hw hK;obtain⟨f0,f1,f2,f3,f4,f5⟩:=hf it (by simp)
  have W:=Walks.range (prog:=X.prog) (w:=X.w) (I.ok.hd hc) it lo 1 n;refine W.item i s _ _ hg st λv h' tk hv st' kk=>?_;obtain⟨t,rfl⟩:=hv;have I1:Inv X pins σ H { s with heap:=h',toks:=tk }:=I.turned (λb o hb e=>kk b o (by simpa using hb) e) f0 f1 f3 f4 f5
  refine⟨_,rfl,CK (s:={ s with heap:=h',toks:=tk }) (n:="range_iterator") st' rfl rfl (by decide) ⟨.int (lo+i),H,I1,⟨t,?_⟩,⟨rfl,rfl⟩,st',λb hb=>(hf b hb).1⟩⟩
  rw[Int.mul_one]
 done:=by
  intro X hP hw hK hc i pins s σ H E I hf st hg;subst hP hw hK;obtain⟨f0,f1,f2,f3,f4,f5⟩:=hf it (by simp)
  exact wpAny_pyNext_range_end (I.ok.hd hc) st (by have:n<=i:=hg;omega) λh' eb=>⟨rfl,I.turned (t':=s.toks) (λb o hb e=>eb b o hb e) f0 f1 f3 f4 f5⟩
 self:=λ_ _ _ _ _ st h=>wpAny_pyIter_rangeiter st h
section
variable{X:Cx}{tg:Expr}
theorem CN{pins:List (Addr×Obj)}{σ:St}{H:Hp}{s:Shared}{R:It->Hp->Prop}{E:Value->Shared->Prop}{lo hi:Int}{t u v:Tok}{tk:Nat}(I:Inv X pins σ H s)(h1:-(2^62)<=lo)(h2:lo<2^62)(h3:-(2^62)<=hi)(h4:hi<2^62)
  (q:R (Itr lo (hi-lo).toNat) H):wpAny (model X.prog X.w) X.A (pyIter (.ref s.heap.objs.size)) (PIE X pins σ tg R) E { s with heap:=s.heap.push { cls:=.type "range",data:=.fields #[.int lo t,.int hi u,.int 1 v] },toks:=tk }:=by
 refine wpAny_pyIter_range (IsRange.new ..) (small_one h1 h2 h3 h4) ?_;have I1:Inv X pins σ H { s with heap:=s.heap.push { cls:=.type "range",data:=.fields #[.int lo t,.int hi u,.int 1 v] },toks:=tk }:=I.kept λb o e=>Zad _ e;refine⟨(s.heap.push { cls:=.type "range",data:=.fields #[.int lo t,.int hi u,.int 1 v] }).objs.size,[(s.heap.push { cls:=.type "range",data:=.fields #[.int lo t,.int hi u,.int 1 v] }).objs.size],_,_,H,rfl,
  I1.kept (t':=tk) λb o e=>Zad _ e,Gn _ lo (hi-lo).toNat,?_,λb hb=>?_,q⟩
 ·have e1:lo+((0:Nat):Int)*1=lo:=by simp
  have e2:(((hi-lo).toNat:Nat):Int)-((0:Nat):Int)=Builtin.Range.rangeSize lo hi 1:=by rw[rangeSize_one];split<;>omega
  show IsRangeIter _ _ (lo+((0:Nat):Int)*1) ((((hi-lo).toNat:Nat):Int)-((0:Nat):Int)) 1
  rw[e1,e2];exact Zar _ rfl
 ·have e:b=(s.heap.push { cls:=.type "range",data:=.fields #[.int lo t,.int hi u,.int 1 v] }).objs.size:=by simpa using hb
  subst e;exact I1.CJ (Zai _) (I1.hok.fresh (Zai _))
def S9(ta:TA):TI:=λσ H R=>ta σ H λvs H1=>∃ j:Int,vs=[.int j]/\-(2^62)<=j/\j<2^62/\R (Itr 0 j.toNat) H1
def Tc(ta:TA):TI:=λσ H R=>ta σ H λvs H1=>∃ i j:Int,vs=[.int i,.int j]/\(-(2^62)<=i/\i<2^62/\-(2^62)<=j/\j<2^62)/\R (Itr i (j-i).toNat) H1
theorem jW{a:Expr}{ta:TA}{p pos:Pos}(hg:Gl X "range")(hm:X.mg "range"=none)(ha:PA X [a] ta)(hs:starEach [a] X.env=[(false,eval a X.env)]:=by rfl):PI X tg (.Call (.Name "range" p) [a] [] pos) (S9 ta):=by
 intro pins s σ H R I h;refine Call_ (pI I hg hm boot_range (Zbq (thn (ha pos pins s σ H _ I h) ?_) hs rfl));rintro us s1 ⟨vs,H1,I1,r1,q1⟩;obtain⟨j,e,q1,q2,q⟩:=q1;subst e;cases r1 with
 |cons r rr=>
  cases rr;obtain⟨t,rfl⟩:=r;exact call_range_1 (CN I1 (by omega) (by omega) q1 q2 (by simpa using q))
theorem sG{a b:Expr}{ta:TA}{p pos:Pos}(hg:Gl X "range")(hm:X.mg "range"=none)(ha:PA X [a,b] ta)(hs:starEach [a,b] X.env=[(false,eval a X.env),(false,eval b X.env)]:=by rfl)(hs2:starEach [b] X.env=[(false,eval b X.env)]:=by rfl) :
  PI X tg (.Call (.Name "range" p) [a,b] [] pos) (Tc ta):=by
 intro pins s σ H R I h;refine Call_ (pI I hg hm boot_range (Zbq (thn (ha pos pins s σ H _ I h) ?_) (by rw[hs,hs2]) (by rw[hs2];rfl)))
 rintro us s1 ⟨vs,H1,I1,r1,q1⟩;obtain⟨i,j,e,⟨q1,q2,q3,q4⟩,q⟩:=q1;subst e;cases r1 with
 |cons r rr=>
  cases rr with
  |cons r' rr=>
   cases rr;obtain⟨t,rfl⟩:=r;obtain⟨t',rfl⟩:=r';exact call_range_2 (CN I1 q1 q2 q3 q4 q)
def Uq(wi:TI)(g:TG)(tb:TS):TS:=λD σ H=>wi σ H λJ H1=>∃ W:Nat->Nat->St->Hp->Prop,(∃ m,W 0 m σ H1)/\∀ i m σ H,W i m σ H ->
 (J.stop i H/\D.nx σ H)\/(J.go i H/\∃ N:St->Hp->Prop,(∀ σ' H',N σ' H'->∃ m',m'<m/\W (i+1) m' σ' H')/\∀ x H',J.yld i H x H'->g x σ H' λσ2 H2=>tb { D with nx:=N,ct:=N,bk:=D.nx } σ2 H2)
def vf(fp:List Addr)(h:Heap):List (Addr×Obj):=fp.filterMap λb=>(h.get? b).map λo=>(b,o)
theorem kO{fp:List Addr}{h:Heap}{b:Addr}{o:Obj}(hb:b∈fp)(e:h.get? b=some o):(b,o)∈vf fp h:=List.mem_filterMap.mpr ⟨b,hb,by rw[e];rfl⟩
theorem J0{fp:List Addr}{h:Heap}{p:Addr×Obj}(hp:p∈vf fp h):p.1∈fp/\h.get? p.1=some p.2:=by
 obtain⟨b,hb,e⟩:=List.mem_filterMap.mp hp;cases q:h.get? b with
 |none=>rw[q] at e;cases e
 |some o=>
  rw[q] at e;have e':(b,o)=p:=Zab e;subst e';exact⟨hb,q⟩
theorem Inv.pinned{pins:List (Addr×Obj)}{σ:St}{H:Hp}{s:Shared}{fp:List Addr}(I:Inv X pins σ H s)(hf:∀ b∈fp,vd X pins H b)(ho:∀ b∈fp,∃ o,s.heap.get? b=some o/\∀ v,o.data≠.cell v):Inv X (pins++vf fp s.heap) σ H s:=
 I.Ij λp hp=>(Zah.mp hp).elim (λz=>I.pin p (ZaN _ z)) λz=>by
  obtain⟨hb,e⟩:=J0 z;obtain⟨f0,f1,f2,_⟩:=hf p.1 hb;obtain⟨o,e',d⟩:=ho p.1 hb;rw[e] at e';cases e';exact⟨e,f0,f1,f2,d⟩
theorem Inv.qw{pins pl:List (Addr×Obj)}{σ:St}{H:Hp}{s:Shared}(I:Inv X (pins++pl) σ H s):Inv X pins σ H s:=I.Ij λp hp=>I.pin p (ZaN _ (List.mem_append_left _ hp))
theorem iC{iter:Expr}{body:List Stmt}{wi:TI}{g:TG}{tb:TS}{pos:Pos}(hp:PassesOwn (model X.prog X.w) X.A X.env X.xe)(hc:X.calm=true)(hi:PI X tg iter wi)(hg:PG X tg g)(hb:PSs X body tb)
  (hs:∀ x,foldedSetIterable iter X.env x=pure x:=by intro _;rfl):PS X (.For tg iter body [] pos) (Uq wi g tb):=by
 intro pins s σ H D I h;refine wpAny_For (thn (hi pins s σ H _ I h) λv s1 h1=>thn h1 λitv s2 h2=>?_) hs;obtain⟨it,fp,tn,J,H2,e,I2,T,st2,f2,W,⟨m0,w0⟩,turn⟩:=h2;subst e;have stat:∀ {H':Hp},(∀ b∈fp,H' b=none)->∀ b∈fp,vd X pins H' b:=λhn b hb=>⟨hn b hb,(f2 b hb).2⟩;refine codeAny_forLoop_any (λn s'=>∃ i σ' H',Inv X pins σ' H' s'/\tn i s'.heap/\(∀ b∈fp,H' b=none)/\W i n σ' H') ?_ m0 ⟨0,σ,H2,I2,st2,λb hb=>(f2 b hb).1,w0⟩;rintro n s3 ⟨i,σ3,H3,I3,st3,fr3,w3⟩;rcases turn i n σ3 H3 w3 with⟨stop,qn⟩|⟨go,N,hN,step⟩
 ·refine wpAny_passesOwn hp (thn (T.done X rfl rfl rfl hc i pins s3 σ3 H3 X.xe I3 (stat fr3) st3 stop) ?_);rintro r s4 ⟨hr,I4⟩;subst hr;exact wpAny_execs_nil ⟨σ3,H3,I4,qn⟩
 ·refine wpAny_passesOwn hp (thn (T.item X rfl rfl rfl hc i pins s3 σ3 H3 X.xe I3 (stat fr3) st3 go) ?_);rintro r s4 ⟨u,hr,h4⟩;subst hr;refine wpAny_passesOwn hp (thn h4 ?_);rintro _ s5 ⟨x,H5,I5,r5,y5,st5,fr5⟩;have I5':=I5.pinned (stat fr5) (T.obj _ _ st5);refine wpAny_passesOwn hp (thn (hg _ s5 σ3 H5 x u _ I5' r5 (step x H5 y5)) ?_);rintro _ s6 ⟨σ6,H6,I6,q6⟩;refine wpAny_passesOwn hp (thn (hb _ s6 σ6 H6 _ I6 q6) λf s7 q7=>?_);have again:∀ {σ7:St}{H7:Hp},Inv X (pins++vf fp s5.heap) σ7 H7 s7->N σ7 H7->∃ m,m<n/\∃ i σ' H',Inv X pins σ' H' s7/\tn i s7.heap/\(∀ b∈fp,H' b=none)/\W i m σ' H':=λ{σ7 H7} I7 n7=>by
   obtain⟨m',hm,w7⟩:=hN σ7 H7 n7;refine⟨m',hm,i+1,σ7,H7,I7.qw,T.keep _ _ _ st5 λb hb o e=>(I7.pin (b,o) (ZaN _ (ZaN _ (kO hb e)))).1,λb hb=>?_,w7⟩;obtain⟨o,e,d⟩:=T.obj _ _ st5 b hb;exact(I7.pin (b,o) (ZaN _ (ZaN _ (kO hb e)))).2.1
  cases f with
  |next=>obtain⟨σ7,H7,I7,n7⟩:=q7;exact again I7 n7
  |cont=>obtain⟨σ7,H7,I7,n7⟩:=q7;exact again I7 n7
  |brk=>obtain⟨σ7,H7,I7,q7⟩:=q7;exact⟨σ7,H7,I7.qw,q7⟩
  |ret v=>obtain⟨x7,σ7,H7,I7,r7,q7⟩:=q7;exact⟨x7,σ7,H7,I7.qw,r7,q7⟩
end
noncomputable abbrev R2:=V->V->Hp->VK->Prop
def OpR(X:Cx)(f:Value->Value->Sem Value)(r:R2):Prop:=
 ∀ (pins:List (Addr×Obj)) (s:Shared) (σ:St) (H:Hp) (x y:V) (v u:Value) (Q:VK),Inv X pins σ H s->RelV x v->RelV y u->r x y H Q ->
  wpAny (model X.prog X.w) X.A (f v u) (EP X pins σ Q) X.xe s
def UnR(X:Cx)(f:Value->Sem Value)(r:V->Hp->VK->Prop):Prop:=
 ∀ (pins:List (Addr×Obj)) (s:Shared) (σ:St) (H:Hp) (x:V) (v:Value) (Q:VK),Inv X pins σ H s->RelV x v->r x H Q ->
  wpAny (model X.prog X.w) X.A (f v) (EP X pins σ Q) X.xe s
def lW(X:Cx)(f:Value)(r:List V->Hp->VK->Prop):Prop:=
 ∀ (pins:List (Addr×Obj)) (s:Shared) (σ:St) (H:Hp) (xs:List V) (us:List Value) (Q:VK),Inv X pins σ H s->Vals xs us->r xs H Q ->
  wpAny (model X.prog X.w) X.A (call f us) (EP X pins σ Q) X.xe s
def tOp(r:R2)(ta tb:TE):TE:=λσ H Q=>ta σ H λx H1=>tb σ H1 λy H2=>r x y H2 Q
def tUn(r:V->Hp->VK->Prop)(ta:TE):TE:=λσ H Q=>ta σ H λx H1=>r x H1 Q
def rI(C:Int->Int->Prop)(g:Int->Int->V):R2:=λx y H Q=>∃ i j,x=.int i/\y=.int j/\C i j/\Q (g i j) H
def rI0(g:Int->Int->V):R2:=λx y H Q=>∃ i j,x=.int i/\y=.int j/\Q (g i j) H
def rU(g:Int->V):V->Hp->VK->Prop:=λx H Q=>∃ i,x=.int i/\Q (g i) H
section
variable{X:Cx}{a b:Expr}{ta tb:TE}{pos:Pos}
theorem Ur(ha:PE X a ta)(hb:PE X b tb){pins:List (Addr×Obj)}{s:Shared}{σ:St}{H:Hp}{R:V->V->Hp->Prop}(I:Inv X pins σ H s)
  (h:ta σ H λx H1=>tb σ H1 λy H2=>R x y H2){Q:Value->Shared->Prop}{f:Value->Value->Sem Value}
  (hf:∀ v u s2 x y H2,Inv X pins σ H2 s2->RelV x v->RelV y u->R x y H2->wpAny (model X.prog X.w) X.A (f v u) Q X.xe s2) :
  wpAny (model X.prog X.w) X.A (eval a X.env) (λv s₁=>wpAny (model X.prog X.w) X.A (eval b X.env) (λu s₂=>wpAny (model X.prog X.w) X.A (f v u) Q X.xe s₂) X.xe s₁) X.xe s:=by
 refine thn (ha pins s σ H _ I h) ?_;rintro v s1 ⟨x,H1,I1,r1,q1⟩;refine thn (hb pins s1 σ H1 _ I1 q1) ?_;rintro u s2 ⟨y,H2,I2,r2,q2⟩;exact hf v u s2 x y H2 I2 r1 r2 q2
theorem aU{op:Operator}{r:R2}(ho:OpR X (binaryOp op) r)(ha:PE X a ta)(hb:PE X b tb):PE X (.BinOp a op b pos) (tOp r ta tb):=by
 intro pins s σ H Q I h;exact wpAny_BinOp (Ur ha hb I h λv u s2 x y H2 I2 rx ry q=>ho pins s2 σ H2 x y v u Q I2 rx ry q)
theorem Wm{op:UnaryOp}{r:V->Hp->VK->Prop}(ho:UnR X (unaryOp op) r)(ha:PE X a ta):PE X (.UnaryOp op a pos) (tUn r ta):=by
 intro pins s σ H Q I h;exact UnaryOp_ (thn (ha pins s σ H _ I h) λv s1 ⟨x,H1,I1,r1,q1⟩=>ho pins s1 σ H1 x v Q I1 r1 q1)
theorem opI{f:Value->Value->Sem Value}{C:Int->Int->Prop}{g:Int->Int->Int}
  (rule:∀ (i j:Int) (t u:Tok) (s:Shared) (Q:Value->Shared->Prop) (E:Value->Shared->Prop),C i j->Q (.int (g i j) s.toks) { s with toks:=s.toks+1 }->wpAny (model X.prog X.w) X.A (f (.int i t) (.int j u)) Q E s) :
  OpR X f (rI C λi j=>.int (g i j)):=by
 intro pins s σ H x y v u Q I rx ry h;obtain⟨i,j,rfl,rfl,hc,q⟩:=h;obtain⟨t,rfl⟩:=rx;obtain⟨t',rfl⟩:=ry;exact rule i j t t' s _ _ hc ⟨.int (g i j),H,I.tok _,⟨_,rfl⟩,q⟩
theorem Qt{f:Value->Value->Sem Value}{g:Int->Int->Int}
  (rule:∀ (i j:Int) (t u:Tok) (s:Shared) (Q:Value->Shared->Prop) (E:Value->Shared->Prop),Q (.int (g i j) s.toks) { s with toks:=s.toks+1 }->wpAny (model X.prog X.w) X.A (f (.int i t) (.int j u)) Q E s) :
  OpR X f (rI0 λi j=>.int (g i j)):=by
 intro pins s σ H x y v u Q I rx ry h;obtain⟨i,j,rfl,rfl,q⟩:=h;obtain⟨t,rfl⟩:=rx;obtain⟨t',rfl⟩:=ry;exact rule i j t t' s _ _ ⟨.int (g i j),H,I.tok _,⟨_,rfl⟩,q⟩
theorem Us{f:Value->Value->Sem Value}{g:Int->Int->Bool}
  (rule:∀ (i j:Int) (t u:Tok) (s:Shared) (Q:Value->Shared->Prop) (E:Value->Shared->Prop),Q (.bool (g i j)) s->wpAny (model X.prog X.w) X.A (f (.int i t) (.int j u)) Q E s) :
  OpR X f (rI0 λi j=>.bl (g i j)):=by
 intro pins s σ H x y v u Q I rx ry h;obtain⟨i,j,rfl,rfl,q⟩:=h;obtain⟨t,rfl⟩:=rx;obtain⟨t',rfl⟩:=ry;exact rule i j t t' s _ _ ⟨.bl (g i j),H,I,rfl,q⟩
def Ut(i j:Int):Prop:=0<j/\j<1073741824
def LQ(i j:Int):Prop:=0<=j/\j<=1000000/\i.natAbs<2^64
def Gp(i j:Int):Prop:=(-(2^64)<i/\i<2^64)\/(-(2^64)<j/\j<2^64)
theorem Gp.ok{i j:Int}(h:Gp i j):IntMulOk i j:=by
 rcases h with⟨h1,h2⟩|⟨h1,h2⟩
 ·exact .of_left (intBits_le_64 h1 h2)
 ·exact .of_right (intBits_le_64 h1 h2)
theorem Gq(k:Nat):(0:Int)<=2^k:=by
 rw[two_pow_cast];exact Zbr _
theorem Uu:OpR X (binaryOp .Add) (rI0 λi j=>.int (i+j)):=Qt λ_ _ _ _ _ _ _ q=>add_int q
theorem vg:OpR X (binaryOp .Sub) (rI0 λi j=>.int (i-j)):=Qt λ_ _ _ _ _ _ _ q=>sub_int q
theorem Uv:OpR X (binaryOp .Mult) (rI Gp λi j=>.int (i*j)):=opI λ_ _ _ _ _ _ _ hc q=>mul_int q hc.ok
theorem uC:OpR X (binaryOp .FloorDiv) (rI Ut λi j=>.int (i/j)):=opI λi j _ _ _ _ _ hc q=>by
 have h1:(0:Int)<j:=hc.1;have h2:j<1073741824:=hc.2;exact floordiv_int (by omega) (by rw[Int.fdiv_eq_ediv_of_nonneg i (by omega)];exact q) (.inl (PyProof.noPylong_small (by omega)))
theorem fB:OpR X (binaryOp .Mod) (rI (λ_ j=>0<j) λi j=>.int (i%j)):=opI λi j _ _ _ _ _ hc q=>by
 have h1:(0:Int)<j:=hc;exact mod_int' (by omega) (by rw[Int.fmod_eq_emod_of_nonneg i (by omega)];exact q)
theorem Uw:OpR X (binaryOp .Pow) (rI LQ λi j=>.int (i^j.toNat)):=opI λ_ _ _ _ _ _ _ hc q=>pow_int_small hc.1 hc.2.1 hc.2.2 q
theorem Gr:OpR X (binaryOp .LShift) (rI LQ λi j=>.int (i*2^j.toNat)):=opI λ_ _ _ _ _ _ _ hc q=>lshift_int_small hc.1 hc.2.1 hc.2.2 q
theorem Gu:OpR X (binaryOp .RShift) (rI (λ_ j=>0<=j) λi j=>.int (i/2^j.toNat)):=opI λi j _ _ _ _ _ hc q=>
 rshift_int hc (by rw[Int.fdiv_eq_ediv_of_nonneg i (Gq _)];exact q)
theorem sI:OpR X (binaryOp .BitAnd) (rI0 λi j=>.int (Builtin.bitAnd i j)):=Qt λ_ _ _ _ _ _ _ q=>and_int q
theorem Wn:OpR X (binaryOp .BitOr) (rI0 λi j=>.int (Builtin.bitOr i j)):=Qt λ_ _ _ _ _ _ _ q=>or_int q
theorem unI{f:Value->Sem Value}{g:Int->Int}
  (rule:∀ (i:Int) (t:Tok) (s:Shared) (Q:Value->Shared->Prop) (E:Value->Shared->Prop),Q (.int (g i) s.toks) { s with toks:=s.toks+1 }->wpAny (model X.prog X.w) X.A (f (.int i t)) Q E s) :
  UnR X f (rU λi=>.int (g i)):=by
 intro pins s σ H x v Q I rx h;obtain⟨i,rfl,q⟩:=h;obtain⟨t,rfl⟩:=rx;exact rule i t s _ _ ⟨.int (g i),H,I.tok _,⟨_,rfl⟩,q⟩
theorem Ux:UnR X (unaryOp .USub) (rU λi=>.int (-i)):=unI λ_ _ _ _ _ q=>neg_int q
end
section
variable{X:Cx}{a b c:Expr}{ta tb:TE}{pos:Pos}
theorem zV{pins:List (Addr×Obj)}{σ:St}{H:Hp}{s:Shared}{Q:VK}{k k':Bool}(I:Inv X pins σ H s)(q:Q (.bl k) H)(e:k=k'):EP X pins σ Q (.bool k') s:=by
 subst e;exact⟨.bl k,H,I,rfl,q⟩
theorem Wo:OpR X (compareOp .Lt) (rI0 λi j=>.bl (decide (i<j))):=Us λ_ _ _ _ _ _ _ q=>lt_int q
theorem LR:OpR X (compareOp .Gt) (rI0 λi j=>.bl (decide (j<i))):=Us λ_ _ _ _ _ _ _ q=>gt_int q
theorem Wq:OpR X (compareOp .GtE) (rI0 λi j=>.bl (decide (j<=i))):=Us λ_ _ _ _ _ _ _ q=>ge_int q
theorem J1:OpR X (compareOp .Lt) (λx y H Q=>∃ i j,x=.str i/\y=.str j/\Q (.bl (decide (i.cps.toList<j.cps.toList))) H):=by
 intro pins s σ H x y v u Q I rx ry h;obtain⟨i,j,rfl,rfl,q⟩:=h;obtain⟨t,rfl⟩:=rx;obtain⟨t',rfl⟩:=ry;exact lt_str (zV I q rfl)
theorem Ma:OpR X (compareOp .Is) (λx y H Q=>y=.non/\Q (.bl (decide (x=.non))) H):=by
 intro pins s σ H x y v u Q I rx ry h;obtain⟨rfl,q⟩:=h;cases ry;refine is_none_gen (zV I q ?_);cases x<;>first
  |(cases rx;rfl)
  |(obtain⟨t,rfl⟩:=rx;rfl)
theorem zW:OpR X (compareOp .IsNot) (λx y H Q=>y=.non/\Q (.bl (!decide (x=.non))) H):=by
 intro pins s σ H x y v u Q I rx ry h;obtain⟨rfl,q⟩:=h;cases ry;refine isnot_none_gen (zV I q ?_);cases x<;>first
  |(cases rx;rfl)
  |(obtain⟨t,rfl⟩:=rx;rfl)
theorem zX:OpR X (compareOp .NotIn) (λx y H Q=>∃ i j,x=.str i/\y=.str j/\Q (.bl (!(!(Builtin.Str.occurrences j i 0 j.length 1).isEmpty))) H):=by
 intro pins s σ H x y v u Q I rx ry h;obtain⟨i,j,rfl,rfl,q⟩:=h;obtain⟨t,rfl⟩:=rx;obtain⟨t',rfl⟩:=ry;exact notIn_str (zV I q rfl)
theorem OpR.or{f:Value->Value->Sem Value}{r r':R2}(h:OpR X f r)(h':OpR X f r'):OpR X f (λx y H Q=>r x y H Q\/r' x y H Q):=by
 intro pins s σ H x y v u Q I rx ry q;rcases q with q|q
 ·exact h pins s σ H x y v u Q I rx ry q
 ·exact h' pins s σ H x y v u Q I rx ry q
theorem dg(b:Expr){op:CmpOp}(h:op≠.In:=by decide)(h2:op≠.NotIn:=by decide):behindInMarks op b=false:=by
 have e1:(op==CmpOp.In)=false:=by cases op<;>first|rfl|exact absurd rfl h
 have e2:(op==CmpOp.NotIn)=false:=by cases op<;>first|rfl|exact absurd rfl h2
 cases b<;>simp[behindInMarks,e1,e2]
theorem zY{op:CmpOp}{r:R2}(ho:OpR X (compareOp op) r)(ha:PE X a ta)(hb:PE X b tb)(hm:behindInMarks op b=false):PE X (.Compare a [op] [b] pos) (tOp r ta tb):=by
 intro pins s σ H Q I h;exact wpAny_Compare1 (Ur ha hb I h λv u s2 x y H2 I2 rx ry q=>ho pins s2 σ H2 x y v u Q I2 rx ry q) hm
def Td(t:TE):TT:=λσ H Q=>t σ H λx H'=>∃ k,x=.bl k/\Q k H'
theorem bY{op:CmpOp}{r:R2}(ho:OpR X (compareOp op) r)(ha:PE X a ta)(hb:PE X b tb)(hm:behindInMarks op b=false):PT X (.Compare a [op] [b] pos) (Td (tOp r ta tb)):=by
 intro pins s σ H Q I h;refine wpAny_isTrue_Compare1 (thn (ha pins s σ H _ I h) λv s1 ⟨x,H1,I1,r1,q1⟩=>thn (hb pins s1 σ H1 _ I1 q1) λu s2 ⟨y,H2,I2,r2,q2⟩=>
  thn (ho pins s2 σ H2 x y v u _ I2 r1 r2 q2) λc s3 ⟨z,H3,I3,r3,k,e,q3⟩=>?_) hm
 subst e;cases r3;exact wpAny_truthy_bool ⟨H3,I3,q3⟩
theorem zZ:(sizeLine:Nat)<2^63:=by rw[sizeLine_eq];decide
theorem Gv:OpR X (binaryOp .Add) (λx y H Q=>∃ i j,x=.str i/\y=.str j/\i.length+j.length<=sizeLine/\Q (.str (i++j)) H):=by
 intro pins s σ H x y v u Q I rx ry h;obtain⟨i,j,rfl,rfl,hz,q⟩:=h;obtain⟨t,rfl⟩:=rx;obtain⟨t',rfl⟩:=ry;exact add_str (λt' tk=>⟨.str (i++j),H,I.tok _,⟨_,rfl⟩,q⟩) hz
theorem vals1{x:V}{us:List Value}(r:Vals [x] us):∃ u,us=[u]/\RelV x u:=by
 cases r with
 |cons r1 r2=>cases r2;exact⟨_,rfl,r1⟩
theorem vals2{x y:V}{us:List Value}(r:Vals [x,y] us):∃ u w',us=[u,w']/\RelV x u/\RelV y w':=by
 cases r with
 |cons r1 r2=>
  cases r2 with
  |cons r3 r4=>cases r4;exact⟨_,_,rfl,r1,r3⟩
theorem J3(hc:X.calm=true):lW X (.builtin "max") (λxs H Q=>∃ i j,xs=[.int i,.int j]/\Q (.int (if j>i then j else i)) H):=by
 intro pins s σ H xs us Q I r h;obtain⟨i,j,rfl,q⟩:=h;obtain⟨u,w',rfl,⟨t,rfl⟩,⟨t',rfl⟩⟩:=vals2 r;refine max_two_ints (I.ok.hd hc) λh' tk k=>⟨_,H,I.kept k,?_,q⟩;by_cases hj:j>i
 ·rw[Zag hj,Zag hj];exact⟨_,rfl⟩
 ·rw[Zae hj,Zae hj];exact⟨_,rfl⟩
theorem J5(hc:X.calm=true):lW X (.builtin "min") (λxs H Q=>∃ i j,xs=[.int i,.int j]/\Q (.int (if j<i then j else i)) H):=by
 intro pins s σ H xs us Q I r h;obtain⟨i,j,rfl,q⟩:=h;obtain⟨u,w',rfl,⟨t,rfl⟩,⟨t',rfl⟩⟩:=vals2 r;refine min_two_ints (I.ok.hd hc) λh' tk k=>⟨_,H,I.kept k,?_,q⟩;by_cases hj:j<i
 ·rw[Zag hj,Zag hj];exact⟨_,rfl⟩
 ·rw[Zae hj,Zae hj];exact⟨_,rfl⟩
def Ws(K:PySem.W.Frag)(x:V)(H:Hp)(n:Nat):Prop:=
 match x with
 |.str y=>y.length<=sizeLine/\n=y.length
 |.byt y=>y.size<=sizeLine/\n=y.size
 |.ref p=>(∃ xs,SqL K H p xs/\n=xs.length)\/∃ xs,SqT K H p xs/\n=xs.length
 |_=>False
theorem jX:lW X (.builtin "len") (λxs H Q=>∃ x n,xs=[x]/\Ws X.K x H n/\Q (.int n) H):=by
 intro pins s σ H xs us Q I r h;obtain⟨x,n,rfl,e,q⟩:=h;obtain⟨u,rfl,rx⟩:=vals1 r;have hl:=zZ;have hs:sizeLine=16777216:=sizeLine_eq;cases x with
 |str y=>
  obtain⟨t,rfl⟩:=rx;obtain⟨hy,e'⟩:y.length<=sizeLine/\n=y.length:=e;subst e';exact len_str (by lia) ⟨.int _,H,I.tok _,⟨_,rfl⟩,q⟩
 |byt y=>
  obtain⟨t,rfl⟩:=rx;obtain⟨hy,e'⟩:y.size<=sizeLine/\n=y.size:=e;subst e';exact PySem.W.len_bytes (by lia) ⟨.int _,H,I.tok _,⟨_,rfl⟩,q⟩
 |ref p=>
  cases rx;have e':(∃ xs,SqL X.K H p xs/\n=xs.length)\/∃ xs,SqT X.K H p xs/\n=xs.length:=e;rcases e' with⟨xs,hx,e'⟩|⟨xs,hx,e'⟩
  ·subst e';obtain⟨its,r',pl,hz⟩:=I.list hx;have hlen:=r'.length;exact Calls.call_len_list pl.isList (by simp only[List.size_toArray];lia) ⟨.int xs.length,H,I.tok _,⟨_,by simp only[List.size_toArray];rw[hlen]⟩,q⟩
  ·subst e';obtain⟨its,r',pl,hz⟩:=I.tuple hx;have hlen:=r'.length;exact len_tuple pl (by simp only[List.size_toArray];lia) ⟨.int xs.length,H,I.tok _,⟨_,by simp only[List.size_toArray];rw[hlen]⟩,q⟩
 |_=>exact(show False from e).elim
end
theorem sJ{h:Heap}{dx:Addr}{mA:Str->Option Value}(n:h.Ns1 dx mA):∃ od,h.get? dx=some od/\∀ name,PySem.W.lookIn name od=some (mA name):=by
 obtain⟨o,es,ep,ho,hd,hk,_,hm⟩:=n;refine⟨o,ho,λname=>?_⟩;have e:=hm name;unfold nsFind findBy at e;rw[<-Array.find?_toList] at e;unfold PySem.W.lookIn;rw[hd];dsimp only;split
 ·rename_i y q;rw[q] at e;exact Zbd some e
 ·rename_i q;rw[q] at e;have a:es.toList.any (·.refKey)=false:=by
   rw[List.any_eq_false];intro y hy;obtain⟨z,t,hkey⟩:=hk y (Array.mem_toList_iff.mp hy);simp[DictEntry.refKey,hkey]
  have a':¬es.toList.any (·.refKey)=true:=by rw[a];exact Zbf
  rw[Zae a'];exact Zbd some e
def mq(f:Str)(v:V):List (Str×V)->List (Str×V)
 |[]=>[(f,v)]
 |(g,x)::r=>if g=f then(g,v)::r else(g,x)::mq f v r
theorem tX(f g:Str)(v:V):∀ fs:List (Str×V),(mq f v fs).lookup g=if g=f then some v else fs.lookup g
 |[]=>by
  show List.lookup g [(f,v)]=_
  by_cases h:g=f
  ·have hb:(g==f)=true:=beq_iff_eq.mpr h;simp only[List.lookup,hb,Zag h]
  ·have hb:(g==f)=false:=beq_eq_false_iff_ne.mpr h;simp only[List.lookup,hb,Zae h]
 |(k,x)::r=>by
  have ih:=tX f g v r;rw[show mq f v ((k,x)::r)=(if k=f then(k,v)::r else(k,x)::mq f v r) from rfl];by_cases hk:k=f
  ·rw[Zag hk];by_cases h:g=k
   ·have hb:(g==k)=true:=beq_iff_eq.mpr h;simp only[List.lookup,hb,Zag (h.trans hk)]
   ·have hb:(g==k)=false:=beq_eq_false_iff_ne.mpr h;simp only[List.lookup,hb,Zae (λe:g=f=>h (e.trans hk.symm))]
  ·rw[Zae hk];by_cases h:g=k
   ·have hb:(g==k)=true:=beq_iff_eq.mpr h;simp only[List.lookup,hb,Zae (λe:g=f=>hk (h.symm.trans e))]
   ·have hb:(g==k)=false:=beq_eq_false_iff_ne.mpr h;simp only[List.lookup,hb];exact ih
theorem sO(f:Str)(v:V):∀ fs:List (Str×V),f∈(mq f v fs).map (·.1)/\∀ g,g∈fs.map (·.1)->g∈(mq f v fs).map (·.1)
 |[]=>⟨by simp[mq],λg h=>by simp at h⟩
 |(k,x)::r=>by
  obtain⟨i1,i2⟩:=sO f v r;rw[show mq f v ((k,x)::r)=(if k=f then(k,v)::r else(k,x)::mq f v r) from rfl];by_cases hk:k=f
  ·rw[Zag hk];subst hk;exact⟨by simp,λg h=>by simpa using h⟩
  ·rw[Zae hk];refine⟨?_,λg h=>?_⟩
   ·rw[Zan];exact List.mem_cons_of_mem _ i1
   ·rw[Zan] at h ⊢;rcases Zaw.mp h with e|e
    ·exact Zaw.mpr (.inl e)
    ·exact List.mem_cons_of_mem _ (i2 g e)
theorem tY(f:Str)(v:V):∀ fs:List (Str×V),(mq f v fs).length<=fs.length+1
 |[]=>by simp[mq]
 |(k,x)::r=>by
  have ih:=tY f v r;rw[show mq f v ((k,x)::r)=(if k=f then(k,v)::r else(k,x)::mq f v r) from rfl];by_cases hk:k=f
  ·rw[Zag hk,Zaz,Zaz];omega
  ·rw[Zae hk,Zaz,Zaz];omega
theorem mF.some_of{v:V}{o:Option Value}(r:mF (some v) o):∃ u,o=some u/\RelV v u:=by
 cases o with
 |none=>exact(show False from r).elim
 |some u=>exact⟨u,rfl,r⟩
theorem J6{v:V}{u:Value}(r:RelV v u):PySem.W.handedIn u=true:=by
 cases v with
 |non=>cases (show u=Value.none from r);rfl
 |bl b=>cases (show u=Value.bool b from r);rfl
 |int i=>obtain⟨t,e⟩:=(show ∃ t,u=Value.int i t from r);cases e;rfl
 |str x=>obtain⟨t,e⟩:=(show ∃ t,u=Value.str x t from r);cases e;rfl
 |byt b=>obtain⟨t,e⟩:=(show ∃ t,u=Value.bytes b t from r);cases e;rfl
 |flt b=>obtain⟨t,e⟩:=(show ∃ t,u=Value.float b t from r);cases e;rfl
 |ref a=>cases (show u=Value.ref a from r);rfl
 |ty n=>cases (show u=Value.type n from r);rfl
section
variable{s:Shared}{f:Str}{A:Around}{E:Value->Shared->Prop}
theorem Qu{prog:Program}{w:World}{env:Env}{e:Expr}{f:Str}{pos:Pos}{s:Shared}{Q:Value->Shared->Prop}(hb:attributeBase e f env (eval e env)=eval e env)
  (h:wpAny (model prog w) A (eval e env) (λo s₁=>wpAny (model prog w) A (getAttr o f true) Q E s₁) E s):wpAny (model prog w) A (eval (.Attribute e f pos) env) Q E s:=
 Attribute_any_ h (by rw[arm_eval_Attribute,hb])
end
structure dw(k:Nat)(A:Around):Prop where
 hd:A.handled=none
 dp:A.depth+3*k+5<recursionLimit
 un:A.units+16*k+200<cLine
theorem dw.mono{j k:Nat}{A:Around}(r:dw k A)(h:j<=k):dw j A:=⟨r.hd,by have:=r.dp;lia,by have:=r.un;lia⟩
theorem dw.deeper{k:Nat}{A:Around}(r:dw (k+1) A)(env:Env):dw k (A.deeper env):=
 ⟨r.hd,by have:=r.dp;show A.depth+1+3*k+5<_;lia,by have:=r.un;show A.units+3+16*k+200<_;lia⟩
theorem Gw{A:Around}{C:Addr}{us:List Value}{kw:List (Str×Value)}:(A.under (.builtin "type.__call__" ⟨.ref C::us,kw⟩)).depth=A.depth+1:=by
 first|rfl|simp[Around.under,Code.weight,Code.isCreation,Code.isGuard,Code.isCaller,Code.frames,Code.isFrame,guardIds]
theorem Gx{A:Around}{C:Addr}{us:List Value}{kw:List (Str×Value)}:(A.under (.builtin "type.__call__" ⟨.ref C::us,kw⟩)).units=A.units+1:=by
 first|rfl|simp[Around.under,Code.cUnits,Code.frames,Code.isFrame]
theorem dw.make{k:Nat}{A:Around}(r:dw (k+1) A)(C:Addr)(us:List Value)(kw:List (Str×Value)):dw k (A.under (.builtin "type.__call__" ⟨.ref C::us,kw⟩)):=
 ⟨r.hd,by have:=r.dp;rw[Gw];omega,by have:=r.un;rw[Gx];omega⟩
theorem dw.depth{k:Nat}{A:Around}(r:dw k A):A.depth<recursionLimit:=by have:=r.dp;omega
theorem dw.units{k:Nat}{A:Around}(r:dw k A):A.units+64<cLine:=by have:=r.un;omega
def vh:TA:=λ_ H Q=>Q [] H
def jd(ta:TE)(tr:TA):TA:=λσ H Q=>ta σ H λx H1=>tr σ H1 λxs H2=>Q (x::xs) H2
section
variable{X:Cx}{e:Expr}{es:List Expr}{te:TE}{t:TA}{pos:Pos}
theorem aM:PA X [] vh:=λ_ _ _ _ H Q I h=>Calls.spliced_nil ⟨[],H,I,.nil,h⟩
theorem aj(ha:PE X e te)(hr:PA X es t)(hs:starEach (e::es) X.env=(false,eval e X.env)::starEach es X.env:=by rfl):PA X (e::es) (jd te t):=by
 intro pos pins s σ H Q I h;rw[hs];show wpAny _ _ (spliced ((false,eval e X.env)::backTo pos (starEach es X.env))) _ _ s
 refine Calls.spliced_cons (thn (ha pins s σ H _ I h) ?_);rintro u s1 ⟨x,H1,I1,r1,q1⟩;exact thn (hr pos pins s1 σ H1 _ I1 q1) λus s2 ⟨xs,H2,I2,r2,q2⟩=>⟨x::xs,H2,I2,.cons r1 r2,q2⟩
def Uy(t:TA):TE:=λσ H Q=>t σ H λxs H1=>xs.length<=sizeLine/\∀ p,H1 p=none->Q (.ref p) (upd H1 p (.tup xs))
def Uz(t:TA):TE:=λσ H Q=>t σ H λxs H1=>xs.length<=sizeLine/\∀ p,H1 p=none->Q (.ref p) (upd H1 p (.lst xs))
theorem fC{x1}(h:PA X es t):PE X (.Tuple es x1 pos) (Uy t):=by
 intro pins s σ H Q I hq;refine wpAny_Tuple_spliced (thn (h pos pins s σ H _ I hq) λus s1 ⟨xs,H1,I1,r,z,q⟩=>⟨by rw[<-r.length];exact z,?_⟩)
 have hf:H1 s1.heap.objs.size=none:=I1.hok.fresh (Zai _);refine⟨.ref s1.heap.objs.size,upd H1 s1.heap.objs.size (.tup xs),I1.laid (t':=s1.toks) (λb u e=>Zad _ e) (Zai _) ?_,rfl,q _ hf⟩;exact⟨z,us,r,fu.mk (Zar _ rfl)⟩
theorem vm(h:PA X es t):PE X (.List es pos) (Uz t):=by
 intro pins s σ H Q I hq;refine wpAny_List_spliced (thn (h pos pins s σ H _ I hq) λus s1 ⟨xs,H1,I1,r,z,q⟩=>⟨by rw[<-r.length];exact z,?_⟩)
 have hf:H1 s1.heap.objs.size=none:=I1.hok.fresh (Zai _);refine⟨.ref s1.heap.objs.size,upd H1 s1.heap.objs.size (.lst xs),I1.laid (t':=s1.toks) (λb u e=>Zad _ e) (Zai _) ?_,rfl,q _ hf⟩;exact⟨z,us,0,r,Zar _ rfl⟩
end
noncomputable abbrev Sp:=List V->Hp->VK->XK->Prop
noncomputable abbrev CXT:=List Env->Hp->Shared->XK->Value->Shared->Prop
structure Gy(P:Program)(w:World)(K:PySem.W.Frag)(mg:Str->Option Value)(base:Heap)(A:Around)(outer:List Env)(s:Shared)(H:Hp):Prop where
 frames:A.frames=some outer
 mod:Mod K mg base
 bs:∀ b o,base.get? b=some o->s.heap.get? b=some o/\H b=none
 bsz:base.objs.size<=s.heap.objs.size
 pH:s.heap.FunFrames base outer
 frf:∀ b∈frs outer,H b=none
 hok:HOk P w H s.heap
 bare:AllBare s.gens
def CE(outer:List Env)(P:Program)(w:World)(H:Hp)(s:Shared)(Q:VK)(u:Value)(s':Shared):Prop:=
 ∃ v H',s'.os=s.os/\AllBare s'.gens/\Un (frs outer) [] H H' s.heap s'.heap/\HOk P w H' s'.heap/\RelV v u/\Q v H'
def CR(CX:CXT)(outer:List Env)(P:Program)(w:World)(H:Hp)(s:Shared)(Q:VK)(E:XK)(r:Result)(s':Shared):Prop:=
 match r with
 |.ok (.ret u)=>CE outer P w H s Q u s'
 |.ok _=>False
 |.error e=>CX outer H s E e s'
structure pJ(P:Program)(w:World)(K:PySem.W.Frag)(mg:Str->Option Value)(base:Heap)(CX:CXT)(k:Nat)(f:Addr)(fd:FuncData)(ps:List Str)(sp:Sp):Prop where
 len:∀ vs H Q E,sp vs H Q E->vs.length=ps.length
 run:∀ (A:Around) (outer:List Env) (s:Shared) (H:Hp) (args:Args) (us:List Value) (vs:List V) (Q:VK) (E:XK),dw k A->Gy P w K mg base A outer s H->BindsTo s fd args (ps.zip us)->Vals vs us->sp vs H Q E ->
  codeAny (model P w) A (.call (.ref f) args) (CR CX outer P w H s Q E) s
theorem Gy.make{P:Program}{w:World}{K:PySem.W.Frag}{mg:Str->Option Value}{base:Heap}{A:Around}{outer:List Env}{s:Shared}{H:Hp}(e:Gy P w K mg base A outer s H)(C:Addr)(us:List Value)(kw:List (Str×Value)) :
  Gy P w K mg base (A.under (.builtin "type.__call__" ⟨.ref C::us,kw⟩)) outer s H:=⟨by first|exact e.frames|(simpa[Around.under,Code.envs,Code.isFrame,pushEnvs] using e.frames),e.mod,e.bs,e.bsz,e.pH,e.frf,e.hok,e.bare⟩
section
variable{X:Cx}{pins:List (Addr×Obj)}{σ:St}{H:Hp}{s s':Shared}
theorem Inv.env0(I:Inv X pins σ H s):Gy X.prog X.w X.K X.mg X.base X.A X.stack s H:=
 ⟨I.ok.frames,I.ok.mod,I.bs,ZaF I.ok.bsz I.sz,I.stack,I.zQ,I.hok,I.bare⟩
theorem Inv.after{Q:VK}{u:Value}(I:Inv X pins σ H s)(h:CE X.stack X.prog X.w H s Q u s'):EP X pins σ Q u s':=by
 obtain⟨v,H',os,bare,un,hok,r,q⟩:=h;obtain⟨hh,g,d,t,os'⟩:=s';obtain rfl:os'=s.os:=os;exact⟨v,H',I.call (h':=hh) (g':=g) (d':=d) (t':=t) (ch:=[]) un hok bare (λb z=>absurd z (by simp)),r,q⟩
end
def lX(sp:Sp)(dvs:List V)(E:XK)(t:TA):TE:=λσ H Q=>t σ H λvs H1=>sp (vs++dvs) H1 Q E
def Binds(K:PySem.W.Frag)(fd:FuncData)(ps:List Str)(ds:List Value):Prop:=
 ∀ (s:Shared) (us:List Value),K.In s.heap->(us++ds).length=ps.length->BindsTo s fd ⟨us,[]⟩ (ps.zip (us++ds))
theorem Binds.all{K:PySem.W.Frag}{fd:FuncData}{ps:List Str}(h:∀ us:List Value,us.length=ps.length->bindArgs fd ⟨us,[]⟩=pure (ps.zip us)):Binds K fd ps []:=λs us _ hl=>by
 rw[ZaJ] at hl ⊢;exact .of_eq (h us hl)
def Gz(CX:CXT)(X:Cx)(E:XK):Prop:=∀ (pins:List (Addr×Obj)) (σ:St) (H:Hp) (s:Shared) (e:Value) (s':Shared),Inv X pins σ H s->CX X.stack H s E e s'->X.xe e s'
section
variable{X:Cx}{CX:CXT}{k:Nat}{f:Addr}{fd:FuncData}{ps:List Str}{sp:Sp}{dvs:List V}{ds:List Value}{E:XK}{x:Str}{p pos:Pos}{e:Expr}{es:List Expr}{t:TA}
theorem UG{pins:List (Addr×Obj)}{σ:St}{H:Hp}{s:Shared}{Q:VK}{us:List Value}{vs:List V}(F:pJ X.prog X.w X.K X.mg X.base CX k f fd ps sp)(hr:dw k X.A)(hb:Binds X.K fd ps ds)(hd:Vals dvs ds)(hx:Gz CX X E)
  (I:Inv X pins σ H s)(r:Vals vs us)(h:sp (vs++dvs) H Q E):wpAny (model X.prog X.w) X.A (call (.ref f) us) (EP X pins σ Q) X.xe s:=by
 have r2:Vals (vs++dvs) (us++ds):=r.append hd;have hl:(us++ds).length=ps.length:=by rw[<-r2.length];exact F.len _ _ _ _ h
 refine wpAny_call (codeAny_mono (F.run X.A X.stack s H ⟨us,[]⟩ (us++ds) (vs++dvs) Q E hr I.env0 (hb s us I.kIn hl) r2 h) λr s' hq=>?_);cases r with
 |error e=>exact hx pins σ H s e s' I hq
 |ok fl=>
  cases fl with
  |ret u=>exact I.after hq
  |next=>exact False.elim hq
  |brk=>exact False.elim hq
  |cont=>exact False.elim hq
theorem Qv(F:pJ X.prog X.w X.K X.mg X.base CX k f fd ps sp)(hr:dw k X.A)(hg:Gl X x)(hm:X.mg x=some (.ref f))(hk:keepIn X.K (.ref f)=true)(hb:Binds X.K fd ps ds)(hd:Vals dvs ds)(hx:Gz CX X E)
  (ha:PA X (e::es) t)(hdb:(x==("__debug__":Str))=false:=by decide)(he:starEach (e::es) X.env=(false,eval e X.env)::starEach es X.env:=by rfl)(hpl:(backTo pos (starEach es X.env)).any (·.1)=false:=by rfl) :
  PE X (.Call (.Name x p) (e::es) [] pos) (lX sp dvs E t):=by
 intro pins s σ H Q I h;refine wpAny_Call_Name_kw (qu I hg hm ?_ hdb);refine PySem.W.callWith_K (h₀:=X.base) I.ok.mod.kin hk (thn (ha pos pins s σ H _ I h) λus s1 ⟨vs,H1,I1,r,q⟩=>⟨I1.kIn,?_⟩) he hpl;exact UG F hr hb hd hx I1 r q
end
structure bx(N P:List Str)(sc:Scope):Prop where
 kind:sc.kind=.function
 co:sc.isCoroutine=false
 gen:sc.isGenerator=false
 nd:N.Nodup
 pre:N.take P.length=P
 par:∀ x∈P,sc.names.lookup x=some .local\/sc.names.lookup x=some .cell
 nofree:∀ y∈sc.names,y.2≠.free
theorem yw{kindOf:Str->Option NameKind}{x:Str}:∀ {binds:List (Str×Value)}{m:Str->Option Value},(∀ v,(x,v) ∉ binds)->bindL kindOf binds m x=m x
 |[],_,_=>rfl
 |(n,v)::r,m,h=>by
  unfold bindL;rw[yw λw hw=>h w (List.mem_cons_of_mem _ hw)];split
  ·have:x≠n:=by rintro rfl;exact h v List.mem_cons_self
   simp[this]
  ·rfl
theorem yx{kindOf:Str->Option NameKind}{x:Str}:∀ {binds:List (Str×Value)}{m:Str->Option Value},(∀ v,(x,v) ∉ binds)->bindC kindOf binds m x=m x
 |[],_,_=>rfl
 |(n,v)::r,m,h=>by
  unfold bindC;rw[yx λw hw=>h w (List.mem_cons_of_mem _ hw)];split
  ·rfl
  ·have:x≠n:=by rintro rfl;exact h v List.mem_cons_self
   simp[this]
theorem yz{kindOf:Str->Option NameKind}{x:Str}{v:Value}:∀ {P:List Str}{vs:List Value}{i:Nat}{m:Str->Option Value},P.Nodup->P[i]?=some x->vs[i]?=some v->kindOf x=some .local ->
  bindL kindOf (P.zip vs) m x=some v
 |[],_,_,_,_,h,_,_=>by simp at h
 |_::_,[],_,_,_,_,h,_=>by simp at h
 |p::P,w::vs,0,m,nd,h1,h2,hk=>by
  simp at h1 h2;subst h1;subst h2;show bindL kindOf ((p,w)::P.zip vs) m p=_
  unfold bindL;rw[yw λv hv=>(Zbv.mp nd).1 (List.of_mem_zip hv).1,Zag hk];simp
 |p::P,w::vs,i+1,m,nd,h1,h2,hk=>by
  show bindL kindOf ((p,w)::P.zip vs) m x=_
  unfold bindL;exact yz (i:=i) (Zbv.mp nd).2 (by simpa using h1) (by simpa using h2) hk
theorem yC{kindOf:Str->Option NameKind}{x:Str}{v:Value}:∀ {P:List Str}{vs:List Value}{i:Nat}{m:Str->Option Value},P.Nodup->P[i]?=some x->vs[i]?=some v->kindOf x≠some .local ->
  bindC kindOf (P.zip vs) m x=some v
 |[],_,_,_,_,h,_,_=>by simp at h
 |_::_,[],_,_,_,_,h,_=>by simp at h
 |p::P,w::vs,0,m,nd,h1,h2,hk=>by
  simp at h1 h2;subst h1;subst h2;show bindC kindOf ((p,w)::P.zip vs) m p=_
  unfold bindC;rw[yx λv hv=>(Zbv.mp nd).1 (List.of_mem_zip hv).1,Zae hk];simp
 |p::P,w::vs,i+1,m,nd,h1,h2,hk=>by
  show bindC kindOf ((p,w)::P.zip vs) m x=_
  unfold bindC;exact yC (i:=i) (Zbv.mp nd).2 (by simpa using h1) (by simpa using h2) hk
def start(N:List Str)(vs:List V):St:=vs.map some++List.replicate (N.length-vs.length) none
def vo(CX:CXT)(P:Program)(w:World)(K:PySem.W.Frag)(mg:Str->Option Value)(base:Heap)(N:List Str)(qual:Str)(scope:Scope)(f:Addr)(cd:Value)(A:Around)(outer:List Env)(s:Shared)(H:Hp)(E:XK):Cx where
 prog:=P
 w:=w
 K:=K
 mg:=mg
 base:=base
 A:=A.deeper (envOfC qual scope s.heap.objs.size f cd)
 N:=N
 s₀:=s
 H₀:=H
 env:=envOfC qual scope s.heap.objs.size f cd
 outer:=outer
 stack:=envOfC qual scope s.heap.objs.size f cd::outer
 ex:=[]
 calm:=true
 fn:=λ_=>true
 pn:=[]
 xe:=λe s'=>wpAny (model P w) (A.deeper (envOfC qual scope s.heap.objs.size f cd)) (leaving (envOfC qual scope s.heap.objs.size f cd) e) (λ_ s''=>CX outer H s E e s'') (λe' s''=>CX outer H s E e' s'') s'
theorem CP{sc:Scope}{n:Nat}{x:Str}(h:sc.names.lookup x=some .cell):∃ c,(cellsFrom n sc.names []).lookup x=some c:=by
 have q:=PySem.W.cellsFrom_some sc.names n [] (.inl h);exact Option.isSome_iff_exists.mp q
theorem J7{CX:CXT}{P:Program}{w:World}{K:PySem.W.Frag}{mg:Str->Option Value}{base:Heap}{N ps:List Str}{qual:Str}{scope:Scope}{f:Addr}{cd:Value}{A:Around}{outer:List Env}{s s1:Shared}{H:Hp}{E:XK}{us:List Value}{vs:List V}
  (S:bx N ps scope)(hd:A.handled=none)(e0:Gy P w K mg base A outer s H)(hl:vs.length=ps.length)(r:Vals vs us)
  (x:InCallC s s.heap.objs.size (bindL (envOfC qual scope s.heap.objs.size f cd).kindOf (ps.zip us) λ_=>none) (cellsFrom (s.heap.objs.size+1) scope.names []) (bindC (envOfC qual scope s.heap.objs.size f cd).kindOf (ps.zip us) λ_=>none) s1) :
  Inv (vo CX P w K mg base N qual scope f cd A outer s H E) [] (start N vs) H s1:=by
 have hpl:ps.length<=N.length:=by have:=Zbd List.length S.pre;rw[List.length_take] at this;lia
 obtain⟨h1,tk,rfl,hk⟩:=x.done;have noA:∀ b:Addr,b ∉ (vo CX P w K mg base N qual scope f cd A outer s H E).ex:=λb z=>absurd (show b∈([]:List Addr) from z) (by simp)
 refine⟨⟨e0.mod,S.kind,rfl,rfl,Zai _,λy z c h1 h2=>?_,λy hy=>?_,λy c _ h=>?_,λ_=>hd,Around.frames_deeper e0.frames,.inr ⟨rfl,rfl⟩,λb z=>absurd z (noA b),e0.bs,e0.bsz,λb _ _=>noA b,λb z=>absurd z (noA b),e0.pH,e0.frf⟩,
  rfl,e0.bare,Un.kept hk,⟨_,x.toInCall.ns,λi y v h1 h2 h3=>?_⟩,λy c h=>⟨_,x.cell y c h⟩,e0.hok.fresh (Zai _),λy c h=>?_,λp hp=>absurd (show p∈([]:List (Addr×Obj)) from hp) (by simp),e0.hok.kept hk,?_⟩
 ·exact name_of_addr x.apart (ZbN h1) (ZbN h2)
 ·have hy:scope.names.lookup y=some .cell\/scope.names.lookup y=some .free:=hy;rcases hy with hy|hy
  ·exact CP hy
  ·exact absurd rfl (S.nofree _ (ZbN hy))
 ·exact ZaM (x.above y c (ZbN h))
 ·have hi:i<vs.length:=by
   unfold start at h2;by_cases hi:i<vs.length
   ·exact hi
   ·rw[Zau (by simpa using hi)] at h2
    rw[Zbs] at h2;split at h2<;>cases h2
  have ha:vs[i]?=some v:=by
   unfold start at h2;rw[Zaj (by simpa using hi),List.getElem?_map] at h2
   cases e:vs[i]? with
   |none=>rw[e] at h2;cases h2
   |some a=>rw[e] at h2;cases h2;rfl
  obtain⟨u,hu,rv⟩:=r.get ha;have hp:ps[i]?=some y:=by
   rw[<-S.pre,List.getElem?_take_of_lt (by lia)];exact h1
  have ndP:ps.Nodup:=by rw[<-S.pre];exact S.nd.sublist (ZaP _ _)
  refine⟨u,rv,?_⟩;rcases S.par y (Zal hp) with k|k
  ·exact .inl ⟨k,yz ndP hp hu k⟩
  ·obtain⟨c,e⟩:=CP (n:=s.heap.objs.size+1) k;refine .inr ⟨.inl k,c,e,?_⟩;have q:=x.cell y c e;rw[yC ndP hp hu (by show scope.names.lookup y≠_;rw[k];decide)] at q
   exact q
 ·exact e0.hok.fresh (ZaM (x.above y c (ZbN h)))
 ·unfold start;show _=N.length
  rw[List.length_append,List.length_map,List.length_replicate];lia
theorem Te{CX:CXT}{P:Program}{w:World}{K:PySem.W.Frag}{mg:Str->Option Value}{base:Heap}{k:Nat}{f:Addr}{name qual:Str}{params:Arguments}{body:List Stmt}{scope:Scope}{dV kV doc pm cdv ct oc:Value}{an od:Option Addr}
  {osl:Array (Option Value)}{N ps:List Str}{sp:Sp}(lk:K.lookup f=some ⟨oc,od,.func (fnOf name qual params body scope dV kV doc pm an cdv ct),osl⟩)(hcd:codeIn K cdv qual=true)(S:bx N ps scope)
  (len:∀ vs H Q E,sp vs H Q E->vs.length=ps.length)
  (hbody:∀ (A:Around) (outer:List Env) (s:Shared) (H:Hp) (vs:List V) (Q:VK) (E:XK),dw k (A.deeper (envOfC qual scope s.heap.objs.size f cdv))->sp vs H Q E ->
   ∃ t,PSs (vo CX P w K mg base N qual scope f cdv A outer s H E) body t/\t { nx:=λ_ H'=>Q .non H',rt:=Q } (start N vs) H) :
  pJ P w K mg base CX (k+1) f (fnOf name qual params body scope dV kV doc pm an cdv ct) ps sp:=by
 refine⟨len,λA outer s H args us vs Q E hr e0 hb r hsp=>?_⟩;have hl:=len _ _ _ _ hsp;have KX:K.In s.heap:=e0.mod.kin.keeps λb o e=>(e0.bs b o e).1;have lim:s.heap.NoLimit:=e0.mod.nolimit.keeps λb o e=>(e0.bs b o e).1;have hkind:∀ y∈ps.zip us,scope.names.lookup y.1=some .local\/(scope.names.lookup y.1=some .cell/\((cellsFrom (s.heap.objs.size+1) scope.names []).lookup y.1).isSome=true):=λ⟨n,v⟩ hy=>by
  rcases S.par n (List.of_mem_zip hy).1 with q|q
  ·exact .inl q
  ·exact .inr ⟨q,PySem.W.cellsFrom_some _ _ _ (.inl q)⟩
 refine codeAny_call_function hr.depth (KX _ _ lk) rfl S.co S.gen rfl (PySem.W.codeRec_of KX hcd) (hb _ _ _ _ ?_);refine wpAny_newFunctionEnv_cells S.kind hkind λenv he s1 x=>?_;subst he;refine⟨lim.keeps x.toInCall.keep,codeAny_func ?_⟩;obtain⟨t,ht,hq⟩:=hbody A outer s H vs Q E (hr.deeper _) hsp;have I:Inv (vo CX P w K mg base N qual scope f cdv A outer s H E) [] (start N vs) H s1:=J7 S hr.hd e0 hl r x;refine Za8 (ht [] s1 (start N vs) H _ I hq) (λfl s' hs=>?_) λe s' hs=>hs;have fin:∀ {σ':St}{H':Hp}{v:V}{u:Value},Inv (vo CX P w K mg base N qual scope f cdv A outer s H E) [] σ' H' s'->RelV v u->Q v H'->CE outer P w H s Q u s':=
  λ{σ' H' v u} J rv q=>⟨v,H',J.os,J.bare,J.base,J.hok,rv,q⟩
 cases fl with
 |ret u=>
  obtain⟨v,σ',H',J,rv,q⟩:=hs;exact fin J rv q
 |next=>
  obtain⟨σ',H',J,q⟩:=hs;exact fin (v:=V.non) (u:=Value.none) J rfl q
 |brk=>
  obtain⟨_,_,_,q⟩:=hs;exact False.elim q
 |cont=>
  obtain⟨_,_,_,q⟩:=hs;exact False.elim q
section
variable{X:Cx}{x:Str}{p pos:Pos}{e:Expr}{es:List Expr}{t:TA}{id T:String}{r:List V->Hp->VK->Prop}
def tCB(r:List V->Hp->VK->Prop)(t:TA):TE:=λσ H Q=>t σ H λvs H1=>r vs H1 Q
theorem bQ(hc:lW X (.builtin id) r)(hg:Gl X x)(hm:X.mg x=none)(hv:bootBuiltins x=some (.builtin id))(ha:PA X (e::es) t)(hn:x≠"__name__":=by decide)(hdb:(x==("__debug__":Str))=false:=by decide)
  (he:starEach (e::es) X.env=(false,eval e X.env)::starEach es X.env:=by rfl)(hpl:(backTo pos (starEach es X.env)).any (·.1)=false:=by rfl):PE X (.Call (.Name x p) (e::es) [] pos) (tCB r t):=by
 intro pins s σ H Q I h;refine wpAny_Call_Name_kw (pI I hg hm hv ?_ hn hdb);exact PyProof.Rows.callWith_builtin1 (thn (ha pos pins s σ H _ I h) λus s1 ⟨vs,H1,I1,r1,q1⟩=>hc pins s1 σ H1 vs us Q I1 r1 q1) he hpl
theorem yD(hc:lW X (.type T) r)(hg:Gl X x)(hm:X.mg x=none)(hv:bootBuiltins x=some (.type T))(ha:PA X (e::es) t)(hn:x≠"__name__":=by decide)(hdb:(x==("__debug__":Str))=false:=by decide)
  (he:starEach (e::es) X.env=(false,eval e X.env)::starEach es X.env:=by rfl)(hpl:(backTo pos (starEach es X.env)).any (·.1)=false:=by rfl):PE X (.Call (.Name x p) (e::es) [] pos) (tCB r t):=by
 intro pins s σ H Q I h;refine wpAny_Call_Name_kw (pI I hg hm hv ?_ hn hdb);exact Zbq (thn (ha pos pins s σ H _ I h) λus s1 ⟨vs,H1,I1,r1,q1⟩=>hc pins s1 σ H1 vs us Q I1 r1 q1) he hpl
end
end L2
namespace HT
open PySem PyProof.Rows
section
variable{prog:Program}{w:World}{A:Around}{E:Value->Shared->Prop}{s:Shared}
theorem Qw{t b:Addr}{vs ws:List Value}{Q:Value->Shared->Prop}(ht:IsTup s.heap t vs.toArray)(hb:IsTup s.heap b ws.toArray)(hv:vs≠[])
  (h1:ws=[]->Q (.ref t) s)(h2:ws≠[]->Q (.ref s.heap.objs.size) { s with heap:=s.heap.push { cls:=.type "tuple",data:=.seq (vs++ws).toArray } })
  (hsz:vs.length+ws.length<=sizeLine):wpAny (model prog w) A (binaryOp .Add (.ref t) (.ref b)) Q E s:=by
 obtain⟨⟨cls,dd,data,sl⟩,ho,hc,n,hd⟩:=id ht;obtain⟨⟨cls2,dd2,data2,sl2⟩,ho2,hc2,n2,hd2⟩:=id hb;simp only at hc hd hc2 hd2;subst hc hd hc2 hd2;have e:vs.toArray++ws.toArray=(vs++ws).toArray:=by simp
 by_cases hw:ws=[]
 ·exact concat_meets ⟨_,ho,rfl⟩ ⟨_,ho2,rfl⟩ noFill_tuple_add seq_tuple_add PySem.F.slot_tuple_add PySem.F.entry_tuple_add (PySem.F.args_tuple_add_2 _ _)
   (tuple_addW1 t b vs.toArray ws.toArray n n2 dd dd2 sl sl2 (by simpa using hv) (by simp[hw])) ⟨ho,ho2,h1 hw⟩
 ·refine concat_meets ⟨_,ho,rfl⟩ ⟨_,ho2,rfl⟩ noFill_tuple_add seq_tuple_add PySem.F.slot_tuple_add PySem.F.entry_tuple_add (PySem.F.args_tuple_add_2 _ _)
   (tuple_addW2 t b vs.toArray ws.toArray n n2 dd dd2 sl sl2 (by simpa using hv) (by simpa using hw) (by rw[List.size_toArray,List.size_toArray];exact hsz)) ⟨ho,ho2,?_⟩
  rw[e];exact h2 hw
def sIx(n d:Nat):Option Int->Nat
 |none=>d
 |some v=>if v<0 then(v+(n:Int)).toNat else min v.toNat n
end
end HT
namespace L2
open PySem PySem.Spec PyProof.Rows
noncomputable abbrev TO:=St->Hp->(Option Int->Hp->Prop)->Prop
def PO(X:Cx)(e:Option Expr)(t:TO):Prop:=
 ∀ (pins:List (Addr×Obj)) (s:Shared) (σ:St) (H:Hp) (Q:Option Int->Hp->Prop),Inv X pins σ H s->t σ H Q ->
  wpAny (model X.prog X.w) X.A (evalPart e X.env) (λu s'=>∃ o H',Inv X pins σ H' s'/\IsPart u o/\Q o H') X.xe s
def Il:TO:=λ_ H Q=>Q none H
def Tf(t:TE):TO:=λσ H Q=>t σ H λx H1=>∃ i,x=.int i/\Q (some i) H1
section
variable{X:Cx}{e:Expr}{te:TE}{lo hi:Option Expr}{tl th:TO}{pos p2:Pos}
theorem Qx:PO X none Il:=by
 intro pins s σ H Q I h;rw[evalPart_none];exact Zaf ⟨none,H,I,.none,h⟩
theorem Qy(h:PE X e te):PO X (some e) (Tf te):=by
 intro pins s σ H Q I hw;rw[evalPart_some];refine thn (h pins s σ H _ I hw) ?_;rintro u s1 ⟨x,H1,I1,r1,q1⟩;obtain⟨i,rfl,q⟩:=q1;obtain⟨t,rfl⟩:=r1;exact⟨some i,H1,I1,.int i t,q⟩
def SlR(X:Cx)(r:V->Option Int->Option Int->Hp->VK->Prop):Prop:=
 ∀ (pins:List (Addr×Obj)) (s:Shared) (σ:St) (H:Hp) (x:V) (v vl vu:Value) (lo hi:Option Int) (sl:Addr) (Q:VK),Inv X pins σ H s->RelV x v->s.heap.IsSliceOf sl vl vu .none->IsPart vl lo->IsPart vu hi->r x lo hi H Q ->
  ∃ T id,typeLookup (.type T) "__getitem__"=pure (some (.builtin id))/\s.TypeIs v T/\wpAny (model X.prog X.w) X.A (getItem v (.ref sl)) (EP X pins σ Q) X.xe s
def tSl(r:V->Option Int->Option Int->Hp->VK->Prop)(te:TE)(tl th:TO):TE:=λσ H Q=>te σ H λx H1=>tl σ H1 λl H2=>th σ H2 λu H3=>r x l u H3 Q
theorem Mf{r:V->Option Int->Option Int->Hp->VK->Prop}(hr:SlR X r)(he:PE X e te)(hl:PO X lo tl)(hu:PO X hi th):PE X (.Subscript e (.Slice lo hi none p2) pos) (tSl r te tl th):=by
 intro pins s σ H Q I h;refine Subscript_ (thn (he pins s σ H _ I h) ?_);rintro v s1 ⟨x,H1,I1,r1,q1⟩;refine wpAny_Slice (thn (hl pins s1 σ H1 _ I1 q1) λvl s2 ⟨l,H2,I2,pl,q2⟩=>thn (hu pins s2 σ H2 _ I2 q2) ?_);rintro vu s3 ⟨u,H3,I3,pu,q3⟩;rw[evalPart_none];refine Zaf ?_;have I4:Inv X pins σ H3 { s3 with heap:=s3.heap.push { cls:=.type "slice",data:=.fields #[vl,vu,.none] } }:=I3.kept (t':=s3.toks) λb ob q=>Zad _ q;obtain⟨T,id,hT,ht,hg⟩:=hr pins { s3 with heap:=s3.heap.push { cls:=.type "slice",data:=.fields #[vl,vu,.none] } } σ H3 x v vl vu l u s3.heap.objs.size Q I4 r1 (Heap.IsSliceOf.new ..) pl pu q3;show wpAny (model X.prog X.w) X.A (subscriptTail e (.Slice lo hi none p2) v (.ref s3.heap.objs.size)) (EP X pins σ Q) X.xe { s3 with heap:=s3.heap.push { cls:=.type "slice",data:=.fields #[vl,vu,.none] } }
 exact tail_any (ops:=[.ref s3.heap.objs.size,v]) ht hT hg (by with_unfolding_all rfl)
def J8(xs:List V)(lo hi:Option Int):List V:=(xs.drop (HT.sIx xs.length 0 lo)).take (HT.sIx xs.length xs.length hi-HT.sIx xs.length 0 lo)
theorem CQ(xs:List V)(lo hi:Option Int):(J8 xs lo hi).length<=xs.length:=by
 unfold J8;rw[List.length_take,List.length_drop];omega
def Tg(K:PySem.W.Frag):R2:=λx y H Q=>∃ a b xs ys,x=.ref a/\y=.ref b/\SqT K H a xs/\SqT K H b ys/\xs≠[]/\xs.length+ys.length<=sizeLine /\
 (ys=[]->Q (.ref a) H)/\(ys≠[]->∀ p,H p=none->Q (.ref p) (upd H p (.tup (xs++ys))))
theorem Vals.z6{xs:List V}{us:List Value}(r:Vals xs us):us=[]↔xs=[]:=by
 cases r with
 |nil=>simp
 |cons _ _=>simp
theorem Qz:OpR X (binaryOp .Add) (Tg X.K):=by
 intro pins s σ H x y v u Q I rx ry h;obtain⟨a,b,xs,ys,rfl,rfl,ha,hb,hx,hz,q1,q2⟩:=h;cases rx;cases ry;obtain⟨its,r1,p1,_⟩:=I.tuple ha;obtain⟨its2,r2,p2,_⟩:=I.tuple hb;refine HT.Qw p1 p2 (λz=>hx (r1.z6.mp z)) (λz=>⟨.ref a,H,I,rfl,q1 (r2.z6.mp z)⟩) (λz=>?_) (by rw[<-r1.length,<-r2.length];exact hz)
 refine⟨.ref s.heap.objs.size,_,I.laid (t':=s.toks) (o:=.tup (xs++ys)) (λb ob q=>Zad _ q) (Zai _) ?_,rfl,q2 (λw=>z (r2.z6.mpr w)) _ (I.hok.fresh (Zai _))⟩;exact⟨by rw[List.length_append];exact hz,_,r1.append r2,fu.new _ _⟩
end
def ixN(n:Nat)(i:Int):Option Nat:=if 0<=i then(if i<n then some i.toNat else none) else if -(n:Int)<=i then some (i+n).toNat else none
def atI{α:Type}(xs:List α)(i:Int):Option α:=(ixN xs.length i).bind λj=>xs[j]?
theorem QB{n:Nat}{i:Int}{j:Nat}(h:ixN n i=some j):seqIndex? i n=some j/\j<n/\-(n:Int)<=i/\i<n:=by
 unfold ixN at h;by_cases h0:0<=i
 ·rw[Zag h0] at h;by_cases h1:i<n
  ·rw[Zag h1] at h;have e:i.toNat=j:=Zab h;exact⟨by rw[seqIndex_of h0 h1,e],by lia,by lia,h1⟩
  ·rw[Zae h1] at h;cases h
 ·rw[Zae h0] at h;by_cases h1:-(n:Int)<=i
  ·rw[Zag h1] at h;have e:(i+n).toNat=j:=Zab h;exact⟨by rw[seqIndex_neg (by lia) h1,e],by lia,h1,by lia⟩
  ·rw[Zae h1] at h;cases h
theorem z7{α:Type}{xs:List α}{i:Int}{v:α}(h:atI xs i=some v):∃ j,seqIndex? i xs.length=some j/\xs[j]?=some v/\j<xs.length/\-(xs.length:Int)<=i/\i<xs.length:=by
 unfold atI at h;cases e:ixN xs.length i with
 |none=>rw[e] at h;cases h
 |some j=>
  rw[e] at h;obtain⟨h1,h2,h3,h4⟩:=QB e;exact⟨j,h1,h,h2,h3,h4⟩
theorem nO{α:Type}{xs:List α}{j:Nat}{v:α}(h:xs[j]?=some v):atI xs (j:Int)=some v:=by
 have hj:j<xs.length:=(Zac.mp h).1;have e:ixN xs.length (j:Int)=some j:=by
  unfold ixN;rw[Zag (by lia),Zag (by lia)];simp
 unfold atI;rw[e];exact h
def QC(b:Expr):Prop:=∀ o i,subscripted b false o i=operate [o,i] (getItem o i)
def IxR(X:Cx)(r:R2):Prop:=
 ∀ (value slice:Expr) (pins:List (Addr×Obj)) (s:Shared) (σ:St) (H:Hp) (x y:V) (v u:Value) (Q:VK),Inv X pins σ H s->RelV x v->RelV y u->r x y H Q ->
  subscripted slice false v u=operate [v,u] (getItem v u)->wpAny (model X.prog X.w) X.A (subscriptTail value slice v u) (EP X pins σ Q) X.xe s
def MtR(X:Cx)(id:String)(r:V->List V->Hp->VK->Prop):Prop:=
 ∀ (pins:List (Addr×Obj)) (s:Shared) (σ:St) (H:Hp) (x:V) (xs:List V) (v:Value) (us:List Value) (Q:VK),Inv X pins σ H s->RelV x v->Vals xs us->r x xs H Q ->
  wpAny (model X.prog X.w) X.A (call (.builtin id) (v::us)) (EP X pins σ Q) X.xe s
section
variable{X:Cx}{a b:Expr}{ta tb:TE}{pos:Pos}
theorem IxR.or{r r':R2}(h:IxR X r)(h':IxR X r'):IxR X (λx y H Q=>r x y H Q\/r' x y H Q):=by
 intro value slice pins s σ H x y v u Q I rx ry q hs;rcases q with q|q
 ·exact h value slice pins s σ H x y v u Q I rx ry q hs
 ·exact h' value slice pins s σ H x y v u Q I rx ry q hs
theorem bO{r:R2}(hr:IxR X r)(ha:PE X a ta)(hb:PE X b tb)(hs:QC b):PE X (.Subscript a b pos) (tOp r ta tb):=by
 intro pins s σ H Q I h;exact Subscript_ (Ur ha hb I h λv u s2 x y H2 I2 rx ry q=>hr a b pins s2 σ H2 x y v u Q I2 rx ry q (hs _ _))
def Wt(K:PySem.W.Frag):R2:=λx y H Q=>∃ p xs i v,x=.ref p/\y=.int i/\SqL K H p xs/\atI xs i=some v/\Q v H
def Wu(K:PySem.W.Frag):R2:=λx y H Q=>∃ p xs i v,x=.ref p/\y=.int i/\SqT K H p xs/\atI xs i=some v/\Q v H
def Wv:R2:=λx y H Q=>∃ z i c,x=.str z/\y=.int i/\z.length<=sizeLine/\atI z.cps.toList i=some c/\Q (.str ⟨#[c]⟩) H
theorem QD:IxR X (Wt X.K):=by
 intro value slice pins s σ H x y v u Q I rx ry h hs;obtain⟨p,xs,i,z,rfl,rfl,hq,he,q⟩:=h;cases rx;obtain⟨t,rfl⟩:=ry;obtain⟨its,r,pl,hz⟩:=I.list hq;obtain⟨j,h1,h2,h3,h4,h5⟩:=z7 he;obtain⟨w,ew,rw'⟩:=r.get h2;have hl:=r.length;have hn:=zZ;have fin:EP X pins σ Q w s:=⟨z,H,I,rw',q⟩;by_cases h0:0<=i
 ·have hj:i.toNat=j:=by
   rw[seqIndex_of h0 h5] at h1;exact Zab h1
  exact item_listR pl.isList h0 (by lia) (by rw[hj];simpa using ew) fin hs
 ·have hj:(i+(its.toArray.size:Int)).toNat=j:=by
   rw[seqIndex_neg (by lia) h4] at h1
   rw[List.size_toArray,<-hl];exact Zab h1
  exact subscriptTail_builtinR (x:=w) pl.isList.typeIs slot_list_getitem.lookup
   (wpAny_getItem_list_neg (Q:=λr s'=>r=w/\EP X pins σ Q r s') pl.isList (by lia) (by rw[List.size_toArray]<;>lia) (by lia) (by rw[hj];simpa using ew) ⟨rfl,fin⟩) hs
theorem UJ:IxR X (Wu X.K):=by
 intro value slice pins s σ H x y v u Q I rx ry h hs;obtain⟨p,xs,i,z,rfl,rfl,hq,he,q⟩:=h;cases rx;obtain⟨t,rfl⟩:=ry;obtain⟨its,r,pl,hz⟩:=I.tuple hq;obtain⟨j,h1,h2,h3,h4,h5⟩:=z7 he;obtain⟨w,ew,rw'⟩:=r.get h2;have hl:=r.length;have hn:=zZ;have fin:EP X pins σ Q w s:=⟨z,H,I,rw',q⟩;exact subscriptTail_builtinR (x:=w) pl.typeIs slot_tuple_getitem.lookup
  (getItem_tuple (j:=j) (Q:=λr s'=>r=w/\EP X pins σ Q r s') pl (by omega) (by omega) (by rw[List.size_toArray,<-hl];exact h1) (by simpa using ew) ⟨rfl,fin⟩) hs
theorem UL:IxR X Wv:=by
 intro value slice pins s σ H x y v u Q I rx ry h hs;obtain⟨z,i,c,rfl,rfl,hz,he,q⟩:=h;obtain⟨t,rfl⟩:=rx;obtain⟨t',rfl⟩:=ry;obtain⟨j,h1,h2,h3,h4,h5⟩:=z7 he;have hl:z.cps.toList.length=z.length:=by simp[Str.length]
 rw[hl] at h1 h4 h5;have hn:=zZ;exact tail_any (typeIs_str s z t) slot_str_getitem.lookup (getItem_str (c:=c) (by
  have e1:decide (i < -(2^63:Int))=false:=ZaC (by lia)
  have e2:decide (i>=2^63)=false:=ZaC (by lia)
  rw[e1,e2,Bool.or_false]) (by rw[h1];simpa using h2) ⟨.str ⟨#[c]⟩,H,I.tok _,⟨_,rfl⟩,q⟩) hs
def rIx(K:PySem.W.Frag):R2:=λx y H Q=>Wt K x y H Q\/Wu K x y H Q\/Wv x y H Q
theorem bH:IxR X (rIx X.K):=QD.or (UJ.or UL)
theorem z8(lo hi:Option Int)(n:Nat):(sliceBounds lo hi none n).1=((HT.sIx n 0 lo:Nat):Int)/\(sliceBounds lo hi none n).2.1=((HT.sIx n n hi:Nat):Int)/\(sliceBounds lo hi none n).2.2=1:=by
 refine⟨?_,?_,rfl⟩
 ·cases lo with
  |none=>simp[sliceBounds,HT.sIx]
  |some i=>
   simp only[sliceBounds,HT.sIx,Option.getD_none,show(1:Int)>0 by decide,ZbI]
   by_cases h:i<0
   ·simp only[h,ZbI]<;>lia
   ·simp only[h,Zbh]<;>lia
 ·cases hi with
  |none=>simp[sliceBounds,HT.sIx]
  |some i=>
   simp only[sliceBounds,HT.sIx,Option.getD_none,show(1:Int)>0 by decide,ZbI]
   by_cases h:i<0
   ·simp only[h,ZbI]<;>lia
   ·simp only[h,Zbh]<;>lia
theorem xU(its:List Value)(lo hi:Option Int):slicePick its.toArray lo hi none=((its.drop (HT.sIx its.length 0 lo)).take (HT.sIx its.length its.length hi-HT.sIx its.length 0 lo)).toArray:=by
 obtain⟨h1,h2,h3⟩:=z8 lo hi its.toArray.size;unfold slicePick;rw[h1,h2,h3];simp only[sliceRange_one,pick_run,List.size_toArray]<;>rfl
def Ww(K:PySem.W.Frag):V->Option Int->Option Int->Hp->VK->Prop:=λx lo hi H Q=>∃ a xs,x=.ref a/\SqL K H a xs/\∀ p,H p=none->Q (.ref p) (upd H p (.lst (J8 xs lo hi)))
theorem QG:SlR X (Ww X.K):=by
 intro pins s σ H x v vl vu lo hi sl Q I rx hs pl pu h;obtain⟨a,xs,rfl,hx,q⟩:=h;cases rx;obtain⟨its,r,ht,hz⟩:=I.list hx;have hlen:=r.length;refine⟨"list",_,slot_list_getitem.lookup,ht.isList.typeIs,?_⟩;refine wpAny_getItem_list_slice ht.isList hs pl pu .none (by simp) ?_ (by rw[List.size_toArray]<;>lia)
 rw[xU,<-hlen];refine⟨.ref s.heap.objs.size,_,I.laid (t':=s.toks) (o:=.lst (J8 xs lo hi)) (λb ob q=>Zad _ q) (Zai _) ?_,rfl,q _ (I.hok.fresh (Zai _))⟩;exact⟨ZaF (CQ xs lo hi) hz,_,0,(r.drop (HT.sIx xs.length 0 lo)).take (HT.sIx xs.length xs.length hi-HT.sIx xs.length 0 lo),Zar _ rfl⟩
def Yl:V->Bool
 |.non=>true
 |.bl _=>true
 |.int _=>true
 |.str _=>true
 |_=>false
def eqV:V->V->Bool
 |.non,.non=>true
 |.bl a,.bl b=>a==b
 |.bl a,.int b=>(if a then 1 else 0)==b
 |.int a,.bl b=>a==(if b then 1 else 0)
 |.int a,.int b=>a==b
 |.str a,.str b=>a==b
 |_,_=>false
theorem z9:lW X (.type "list") (λxs H Q=>∃ p ys,xs=[.ref p]/\(SqL X.K H p ys\/SqT X.K H p ys)/\∀ l,H l=none->Q (.ref l) (upd H l (.lst ys))):=by
 intro pins s σ H xs us Q I r h;obtain⟨p,ys,rfl,hq,q⟩:=h;obtain⟨u,rfl,rx⟩:=vals1 r;cases rx;have fin:∀ (its:List Value),Vals ys its->ys.length<=sizeLine->∀ (h':Heap) (c':Nat),(∀ b o',s.heap.get? b=some o'->h'.get? b=some o') ->
   h'.get? s.heap.objs.size=some { cls:=.type "list",dict:=none,data:=.seq its.toArray c',slots:=#[] }->EP X pins σ Q (.ref s.heap.objs.size) { s with heap:=h' }:=λits r' hz h' c' kp e=>
  ⟨.ref s.heap.objs.size,_,I.laid (t':=s.toks) kp (Zai _) (show cF X.prog X.w _ h' _ (.lst ys) from⟨hz,its,c',r',e⟩),rfl,q _ (I.hok.fresh (Zai _))⟩
 rcases hq with hq|hq
 ·obtain⟨its,r',pl,hz⟩:=I.list hq;have hlen:=r'.length;obtain⟨o,ho,hc,n,hd⟩:=pl.isList;exact call_list_seq p (.inl rfl) ho hc hd (λh' c' kp e=>fin its r' hz h' c' kp e) (by simp only[List.size_toArray]<;>omega)
 ·obtain⟨its,r',pl,hz⟩:=I.tuple hq;have hlen:=r'.length;obtain⟨o,ho,hc,n,hd⟩:=pl;exact call_list_seq p (.inr rfl) ho hc hd (λh' c' kp e=>fin its r' hz h' c' kp e) (by simp only[List.size_toArray]<;>omega)
def tyV(K:PySem.W.Frag)(T:String)(x:V)(H:Hp):Prop:=match x with
 |.str _=>T="str"
 |.int _=>T="int"
 |.ref p=>(T="list"/\∃ xs,SqL K H p xs)\/(T="tuple"/\∃ o,K.lookup p=some o/\o.cls=.type "tuple"/\o.dict=none) \/
   (T="dict"/\((∃ kvs,H p=some (.dK kvs))\/∃ kvs,H p=some (.dT kvs)))\/(T="set"/\∃ S n,H p=some (.set S n))
 |_=>False
theorem UT{pins:List (Addr×Obj)}{σ:St}{H:Hp}{s:Shared}{T:String}{x:V}{v:Value}(I:Inv X pins σ H s)(r:RelV x v)(ty:tyV X.K T x H) :
  s.TypeIs v T/\∀ a,v=.ref a->∃ ob,s.heap.get? a=some ob/\ob.dict=none:=by
 cases x with
 |str z=>
  obtain⟨t,rfl⟩:=r;cases (show T="str" from ty);exact⟨typeIs_str s z t,λ_ e=>nomatch e⟩
 |int i=>
  obtain⟨t,rfl⟩:=r;cases (show T="int" from ty);exact⟨typeIs_int s i t,λ_ e=>nomatch e⟩
 |ref p=>
  cases r;rcases ty with⟨rfl,xs,hq⟩|⟨rfl,o,hk,hc,hd⟩|⟨rfl,hk⟩|⟨rfl,S,n,hk⟩
  ·obtain⟨its,_,pl,_⟩:=I.list hq;refine⟨pl.isList.typeIs,λa e=>?_⟩;cases e;obtain⟨o,n,e,c,hd,_⟩:=pl;exact⟨o,e,hd⟩
  ·refine⟨⟨o,I.kIn p o hk,hc⟩,λa e=>?_⟩;cases e;exact⟨o,I.kIn _ o hk,hd⟩
  ·have z:∃ o,s.heap.get? p=some o/\o.ExactDict:=by
    rcases hk with⟨kvs,hk⟩|⟨kvs,hk⟩
    ·obtain⟨_,_,_,_,o,_,_,e,ex,_⟩:=I.hok p _ hk;exact⟨o,e,ex⟩
    ·obtain⟨_,_,_,_,o,_,_,e,ex,_⟩:=I.hok p _ hk;exact⟨o,e,ex⟩
   obtain⟨o,e,ex⟩:=z;refine⟨⟨o,e,ex.1⟩,λa e2=>?_⟩;cases e2;exact⟨o,e,ex.2.1⟩
  ·obtain⟨o,_,_,_,e,ex,_⟩:=I.hok p _ hk;refine⟨⟨o,e,ex.1⟩,λa e2=>?_⟩;cases e2;exact⟨o,e,ex.2.1⟩
 |_=>exact False.elim ty
def tBM(K:PySem.W.Frag)(T:String)(r:V->List V->Hp->VK->Prop)(to:TE)(t:TA):TE:=λσ H Q=>to σ H λx H1=>tyV K T x H1/\t σ H1 λxs H2=>r x xs H2 Q
variable{o e:Expr}{es:List Expr}{to:TE}{t:TA}{name:Str}{apos cpos:Pos}{T id:String}{r:V->List V->Hp->VK->Prop}
theorem Th(pa:PlainAttrs T)(slot:Slot T name id)(hty:typeOf (.builtin id)=pure (.type "method_descriptor"))(hm:MtR X id r)(ho:PE X o to)(ha:PA X (e::es) t)
  (hbase:attributeBase o name X.env (eval o X.env)=eval o X.env:=by rfl)
  (hfew:((backTo cpos (starEach (e::es) X.env)).all (λx=>!x.1)&&(backToKw cpos (keywordEach [] X.env)).all (λx=>x.1.isSome)
   && decide ((e::es).length+([]:List Keyword).length+(if([]:List Keyword).isEmpty then 0 else 1)<30))=true:=by rfl)
  (hline:(apos.endLine==cpos.line)=true:=by rfl)(hs:starEach (e::es) X.env=(false,eval e X.env)::starEach es X.env:=by rfl)(hplain:(backTo cpos (starEach es X.env)).any (·.1)=false:=by rfl) :
  PE X (.Call (.Attribute o name apos) (e::es) [] cpos) (tBM X.K T r to t):=by
 intro pins s σ H Q I h;refine wpAny_Call_method_late hbase hfew hline rfl (thn (ho pins s σ H _ I h) ?_);rintro v s1 ⟨x,H1,I1,r1,ty,q1⟩;obtain⟨h1,h2⟩:=UT I1 r1 ty;refine⟨T,id,pa,slot,hty,h1,h2,?_⟩;have hA:=ha cpos pins s1 σ H1 _ I1 q1;rw[hs] at hA ⊢;refine Calls.callWith_builtin (by show(false||(backTo cpos (starEach es X.env)).any (·.1))=false;rw[hplain]<;>rfl) (Calls.evalArgs_plain ?_)
 exact thn hA λus s2 ⟨vs,H2,I2,r2,q2⟩=>hm pins s2 σ H2 x vs v us Q I2 r1 r2 q2
end
def MtM(X:Cx)(id:String)(r:V->List V->Hp->VK->Prop):Prop:=
 ∀ (pins:List (Addr×Obj)) (s:Shared) (σ:St) (H:Hp) (x:V) (xs:List V) (v:Value) (us:List Value) (Q:VK),Inv X pins σ H s->RelV x v->Vals xs us->r x xs H Q ->
  wpAny (model X.prog X.w) X.A (call (.builtin id) (v::us)) (EP X pins σ Q) X.xe s
theorem Vals.one:∀ {x:V}{us:List Value},Vals [x] us->∃ u,us=[u]/\RelV x u
 |_,_,.cons r .nil=>⟨_,rfl,r⟩
theorem Vals.two:∀ {x y:V}{us:List Value},Vals [x,y] us->∃ u v,us=[u,v]/\RelV x u/\RelV y v
 |_,_,_,.cons r (.cons q .nil)=>⟨_,_,rfl,r,q⟩
section
variable{X:Cx}{pins:List (Addr×Obj)}{σ:St}{H:Hp}{s:Shared}{l:Addr}{xs ys:List V}
theorem Inv.X3{its its':List Value}{n:Nat}{f:Array Value->Array Value}{t':Nat}(I:Inv X pins σ H s)(hH:H l=some (.lst xs))
  (e:s.heap.get? l=some { cls:=.type "list",data:=.seq its.toArray n })(hf:f its.toArray=its'.toArray)(hv:Vals ys its')(hz:ys.length<=sizeLine) :
  Inv X pins σ (upd H l (.lst ys)) { s with heap:=s.heap.update l (Obj.mapSeq f),toks:=t' }:=by
 have q:=PySem.IsL.update e f;rw[hf] at q;refine I.write (x:=l) (e:=l) (by rw[hH];exact trivial) (.inl rfl) (λb' u hb hu=>(ZbH s.heap (Obj.mapSeq f) (ZaX hb)).trans hu) ⟨_,q⟩ ?_
 exact⟨hz,its',_,hv,q⟩
theorem Inv.X4{its:List Value}{t':Nat}(I:Inv X pins σ H s)(hv:Vals ys its)(hz:ys.length<=sizeLine) :
  Inv X pins σ (upd H s.heap.objs.size (.lst ys)) { s with heap:=s.heap.push { cls:=.type "list",data:=.seq its.toArray },toks:=t' }:=
 I.laid (λ_ _ q=>Zad _ q) (Zai _) ⟨hz,its,0,hv,Zar _ rfl⟩
theorem Inv.fresh(I:Inv X pins σ H s):H s.heap.objs.size=none:=I.hok.fresh (Zai _)
theorem Inv.X5(I:Inv X pins σ H s)(hH:H l=some (.lst xs)):xs.length<=sizeLine/\∃ (its:List Value) (n:Nat),Vals xs its/\xs.length=its.length/\s.heap.get? l=some { cls:=.type "list",data:=.seq its.toArray n }:=by
 obtain⟨z,its,n,r,e⟩:=I.hok l _ hH;exact⟨z,its,n,r,r.length,e⟩
end
section
variable{X:Cx}
def Aa:V->List V->Hp->VK->Prop:=λx vs H Q=>∃ l xs y,x=.ref l/\vs=[y]/\H l=some (.lst xs)/\xs.length<sizeLine/\Q .non (upd H l (.lst (xs++[y])))
theorem sS:MtM X "list.append" Aa:=by
 intro pins s σ H x vs v us Q I rx rv h;obtain⟨l,xs,y,rfl,rfl,hH,hz,q⟩:=h;cases rx;obtain⟨u,rfl,ru⟩:=rv.one;obtain⟨z,its,n,r,hl,e⟩:=I.X5 hH;refine call_meets F.slot_list_append ⟨_,e,rfl⟩ F.entry_list_append (F.args_list_append_2 _ _) (PySem.list_append l its.toArray n u (by rw[List.size_toArray];lia)) ⟨e,?_⟩
 refine⟨.non,_,I.X3 (its':=its++[u]) hH e (by simp) (r.append (.cons ru .nil)) ?_,rfl,q⟩
 rw[List.length_append,List.length_singleton];lia
end
end L2
namespace Att
open PySem PySem.W PySem.Calls PyProof.Rows
theorem ur{P:Params}{h:Heap}:∀ (ns:List Int) (vs:List Value),WellAll P h vs (ns.map WData.int)->IntsAre vs ns:=by
 intro ns;induction ns with
 |nil=>
  intro vs w;rw[List.map_nil] at w;cases w;exact .nil
 |cons n ns ih=>
  intro vs w;rw[Zan] at w;cases w with
  |cons a b=>
   cases a;exact .cons _ _ (ih _ b)
theorem J9{l:OpenLaw}{n:Nat}(hn:l.most=some n){P:Params}{h:Heap}{args:List WData}{vals:List Value}
  (hpre:l.row.toRowW.claim.pre args=true)(hwl:WellAll P h vals args) :
  ∃ a vs ns,vals=[Value.ref a]/\args=[WData.list (ns.map WData.int)]/\h.get? a=some { cls:=.type "list",data:=.seq vs.toArray }/\IntsAre vs ns/\ns.length<=n:=by
 have hsh:WShape.hasAll [] args [.list .int]=true:=(pre_splitW hpre).1;have hc:l.pre.holds [] { args:=args }=true:=(pre_splitW hpre).2;obtain⟨d,r,rfl,h1,h2⟩:=hasAllW_cons hsh;obtain rfl:=hasAllW_nil h2;obtain⟨xs,rfl,h3⟩:=hasW_list h1;obtain⟨ns,rfl⟩:=items_int h3;have hlen:ns.length<=n:=by
  unfold OpenLaw.pre at hc;have h4:(WTm.not (.lt (.lit (.int (n:Int))) (.len (.arg 0)))).holds [] { args:=[.list (ns.map .int)] }=true:=by
   have h4:=(holds_andW hc).1;rw[hn] at h4;exact h4
  have h5:=condW_of h4 (w_not (w_lt w_lit (w_len_list (w_arg rfl))));rw[List.length_map] at h5;refine Nat.le_of_not_lt λq=>?_;have q':(n:Int)<((ns.length:Nat):Int):=by omega
  first
   |(rw[ZaB q'] at h5;exact absurd h5 (by decide))
   |(simp at h5;omega)
 cases hwl with
 |cons w1 w2=>
  cases w2;cases w1 with
  |list ho hall=>exact⟨_,_,ns,rfl,rfl,ho,ur ns _ hall,hlen⟩
theorem Ka(l:OpenLaw)(args:List WData):l.row.toRowW.claim.post args (.bool true) args=true:=
 postW_of (r:=l.row.toRowW) (X:=(true==true))
  (show WShape.has [] (.bool true) .bool=true by first|rfl|decide|simp[WShape.has,WShape.arms,WShape.armsAll])
  (show(WTm.eq .res (.lit (.bool true))).value [] { args:=args,res:=some (.bool true),after:=args }=some (.bool (true==true)) from w_eq_bool (w_res rfl) w_lit) rfl
theorem CT{l:OpenLaw}{n:Nat}{q:Program}{loose:List Str}{XP:(Str->Option Value)->Heap->Prop}{YP:World->Heap->Prop}{d:DefRec}
  (hn:l.most=some n)(hdf:d.params.defaults=[])
  (call:∀ (w:World) (s₀ s₁:Shared) (mg mb:Str->Option Value) (fa:Addr) (o:Obj) (pm cd doc:Value) (a:Addr) (vs:List Value) (ns:List Int),
   Ground q loose [] XP w s₀ mg mb s₁.heap->YP w s₁.heap ->
   s₁.heap.get? fa=some o->o.data=.func (docDef d.name d.params d.body d.scope pm cd doc)->s₁.heap.CodeRec cd d.name->mg d.name=some (.ref fa) ->
   s₁.heap.get? a=some { cls:=.type "list",data:=.seq vs.toArray }->IntsAre vs ns->ns.length<=n->s₁.gens=#[] ->
   codeAny (model l.prog w) callerA (.call (.ref fa) ⟨[.ref a],[]⟩) (λr s'=>r=.ok (.ret (.bool true))/\OldK s₁.heap s'.heap/\s'.os=s₁.os/\AllBare s'.gens) s₁) :
  WalkO q loose XP YP l.row.toRowW d [] (λf vs=>PySem.call f vs):=by
 intro w s₀ s₁ mg mb G Y fa o pm cd doc dV kV ho hd hcd hD hmg hg args vals as hpre hlay hrd hwl hlo;obtain rfl:dV=.none:=Dflts.none hD hdf;obtain rfl:kV=.none:=Dflts.noKw hD;obtain⟨a,vs,ns,rfl,rfl,hobj,hints,hlen⟩:=J9 hn hpre hwl;refine enter_call (codeAny_mono (call w s₀ s₁ mg mb fa o pm cd doc a vs ns G Y ho (fd_plain hd) hcd hmg hobj hints hlen hg) λr s' hq=>?_);obtain⟨rfl,h2,h3,h4⟩:=hq;exact⟨.inl ⟨.bool true,.bool true,[],rfl,λ_=>rfl,.bool true,Ka l _,λ_=>⟨List.Pairwise.nil,λ_ hm=>(nomatch hm)⟩⟩,h2,h3,h4⟩
end Att
namespace L2
open PySem PySem.Spec PyProof.Rows
theorem sU:∀ {vs:List Value}{ns:List Int},IntsAre vs ns->Vals (ns.map V.int) vs
 |_,_,.nil=>.nil
 |_,_,.cons n t h=>.cons ⟨t,rfl⟩ (sU h)
def Only(H:Hp):Prop:=∀ b,H b=none\/∃ o xs,H b=some (.frz o (.lst xs))
theorem Mi{P:Program}{w:World}{K:PySem.W.Frag}{mg mb:Str->Option Value}{CX:CXT}{k:Nat}{fa a:Addr}{fd:FuncData}{x:Str}{sp:Sp}{s₁:Shared}{vs:List Value}{ns:List Int}
  (KX:K.In s₁.heap)(hns:s₁.heap.Ns mainGlobals mg)(hb:s₁.heap.Ns builtinsNs mb)(hbb:∀ x:Str,x≠"__name__"->mb x=bootBuiltins x)(hlim:s₁.heap.NoLimit)(hg:s₁.gens=#[])
  (ha:s₁.heap.get? a=some { cls:=.type "list",data:=.seq vs.toArray })(hi:IntsAre vs ns)(hl:ns.length<=sizeLine)(hr:dw k callerA)
  (F:∀ base:Heap,K.In base->base.Ns mainGlobals mg->pJ P w K mg base CX k fa fd [x] sp)(hbind:∀ (s:Shared) (u:Value),BindsTo s fd ⟨[u],[]⟩ [(x,u)])
  (hsp:∀ H:Hp,Only H->SqL K H a (ns.map V.int)->sp [.ref a] H (λv _=>v=.bl true) λ_ _ _=>False)
  (hCX:∀ H e s',CX [] H s₁ (λ_ _ _=>False) e s'->False) :
  codeAny (model P w) callerA (.call (.ref fa) ⟨[.ref a],[]⟩) (λr s'=>r=.ok (.ret (.bool true))/\OldK s₁.heap s'.heap/\s'.os=s₁.os/\AllBare s'.gens) s₁:=by
 have rv:=sU hi;have lenV:=hi.length;have core:∀ H:Hp,Only H->SqL K H a (ns.map V.int)->HOk P w H s₁.heap->(∀ b,H b≠none->b=a)->(H a≠none->K.lookup a=none) ->
   codeAny (model P w) callerA (.call (.ref fa) ⟨[.ref a],[]⟩) (λr s'=>r=.ok (.ret (.bool true))/\OldK s₁.heap s'.heap/\s'.os=s₁.os/\AllBare s'.gens) s₁:=by
  intro H hO hS hok hA hK;have base_of:∀ {b:Addr}{o:Obj},s₁.heap.get? b=some o->H b=none->(zO s₁.heap H).get? b=some o:=λe n=>LC e n;have noA:∀ {b:Addr}{o:Obj}{es:Array DictEntry}{ep:Nat},s₁.heap.get? b=some o->o.data=.dict es ep->H b=none:=λ{b o es ep} e d=>by
   cases q:H b with
   |none=>rfl
   |some u=>
    have e':b=a:=hA b (by rw[q];simp)
    subst e';rw[ha] at e;cases e;have d':Data.seq vs.toArray _=Data.dict es ep:=d;cases d'
  have nsK:∀ {b:Addr}{m:Str->Option Value},s₁.heap.Ns b m->(zO s₁.heap H).Ns b m:=λ{b m} ⟨o,es,ep,e,d,r⟩=>⟨o,es,ep,base_of e (noA e d),d,r⟩;have hKb:K.In (zO s₁.heap H):=λb o e=>base_of (KX b o e) (by
   cases q:H b with
   |none=>rfl
   |some u=>
    have e':b=a:=hA b (by rw[q];simp)
    subst e';rw[hK (by rw[q];simp)] at e;cases e)
  have hM:Mod K mg (zO s₁.heap H):=⟨hKb,nsK hns,⟨mb,nsK hb,hbb⟩,let⟨mc,h1,h2⟩:=hlim;⟨mc,nsK h1,h2⟩⟩;have e0:Gy P w K mg (zO s₁.heap H) callerA [] s₁ H:=⟨rfl,hM,λb o e=>Qo e,ZbY (JV _ _),trivial,λb hb=>absurd (show b∈([]:List Addr) from hb) (by simp),hok,.of_eq hg⟩
  refine codeAny_mono ((F _ hKb (nsK hns)).run callerA [] s₁ H ⟨[.ref a],[]⟩ [.ref a] [.ref a] _ _ hr e0 (hbind s₁ (.ref a)) (.cons rfl .nil) (hsp H hO hS)) λr s' h=>?_;cases r with
  |error e=>exact(hCX H e s' h).elim
  |ok fl=>
   cases fl with
   |next=>exact False.elim h
   |brk=>exact False.elim h
   |cont=>exact False.elim h
   |ret u=>
    obtain⟨v,H',os,bare,un,hok',r',q⟩:=h;have q':v=.bl true:=q;subst q';obtain rfl:u=Value.bool true:=r';refine⟨rfl,OldK.of_keep λb o e=>?_,os,bare⟩;cases q:H b with
    |none=>exact un.keep b o e q (by intro z;exact absurd (show b∈([]:List Addr) from z) (by simp)) (by simp)
    |some u=>
     rcases hO b with z|⟨ob,xs,z⟩
     ·rw[q] at z;cases z
     ·have z2:=un.frzs b ob _ z;obtain⟨e1,_⟩:=hok b _ z;obtain⟨e2,_⟩:=hok' b _ z2;rw[e] at e1;cases e1;exact e2
 cases hk:K.lookup a with
 |some o=>
  have e:=KX a o hk;rw[ha] at e;cases e;refine core (λ_=>none) (λ_=>.inl rfl) (.inr ⟨_,vs.toArray,_,hk,rfl,rfl,rfl,by rw[List.size_toArray,lenV];exact hl,by simpa using rv⟩) (λb u z=>by have z':(none:Option HO)=some u:=z;cases z') (λb z=>absurd rfl z) λz=>absurd rfl z
 |none=>
  refine core (λb=>if b=a then some (.frz { cls:=.type "list",data:=.seq vs.toArray } (.lst (ns.map V.int))) else none) (λb=>?_) (.inl (.inr ⟨{ cls:=.type "list",data:=.seq vs.toArray },Zag rfl⟩)) (λb u z=>?_) (λb z=>?_) λ_=>hk
  ·by_cases hb:b=a
   ·exact .inr ⟨_,_,Zag hb⟩
   ·exact .inl (Zae hb)
  ·by_cases hb:b=a
   ·have z':=(Zag hb).symm.trans z;cases z';subst hb;exact⟨ha,by rw[List.length_map];exact hl,vs,_,rv,ha⟩
   ·have z':=(Zae hb).symm.trans z;cases z'
  ·by_cases hb:b=a
   ·exact hb
   ·exact absurd (Zae hb) z
theorem QH{l:PySem.W.OpenLaw}{n k:Nat}{q:Program}{loose:List Str}{XP:(Str->Option Value)->Heap->Prop}{YP:World->Heap->Prop}{d:DefRec}{K:Params->PySem.W.Frag}{CX:World->CXT}{sp:World->Sp}{x:Str}
  (hn:l.most=some n)(hn2:n<=sizeLine)(hdf:d.params.defaults=[])(hr:dw k callerA)
  (hY:∀ (w:World) (h:Heap),YP w h->(K w.params).In h)
  (F:∀ (w:World) (mg:Str->Option Value) (fa:Addr) (h:Heap),(K w.params).In h->h.Ns mainGlobals mg->mg d.name=some (.ref fa) ->
   ∃ fd:FuncData,(∀ (s:Shared) (u:Value),BindsTo s fd ⟨[u],[]⟩ [(x,u)]) /\
    ∀ base:Heap,(K w.params).In base->base.Ns mainGlobals mg->pJ l.prog w (K w.params) mg base (CX w) k fa fd [x] (sp w))
  (hsp:∀ (w:World) (H:Hp) (a:Addr) (ns:List Int),ns.length<=n->Only H->SqL (K w.params) H a (ns.map V.int)->sp w [.ref a] H (λv _=>v=.bl true) λ_ _ _=>False)
  (hCX:∀ (w:World) (H:Hp) (s:Shared) (e:Value) (s':Shared),CX w [] H s (λ_ _ _=>False) e s'->False) :
  PySem.W.WalkO q loose XP YP l.row.toRowW d [] (λf vs=>PySem.call f vs):=by
 refine Att.CT hn hdf λw s₀ s₁ mg mb fa o pm cd doc a vs ns G Y ho hd hcd hmg hobj hints hlen hg=>?_;have KX:=hY w _ Y;obtain⟨fd,hb,hF⟩:=F w mg fa _ KX G.T.g hmg;exact Mi KX G.T.g G.T.b G.T.builtins G.T.nolimit hg hobj hints (ZaF hlen hn2) hr hF hb (λH hO hS=>hsp w H a ns hlen hO hS) λH e s'=>hCX w H s₁ e s'
def inClass(s:Stmt)(j:Nat):Stmt:=match s with
 |.ClassDef _ _ _ body _ _ _ _ _ _ _=>body.getD j (.Pass ⟨0,0,0,0⟩)
 |_=>.Pass ⟨0,0,0,0⟩
def bA(s:Stmt):Arguments:=match s with
 |.FunctionDef _ a _ _ _ _ _ _ _ _=>a
 |_=>{ posonlyargs:=[],args:=[],vararg:=none,kwonlyargs:=[],kw_defaults:=[],kwarg:=none,defaults:=[] }
def aZ(s:Stmt):List Stmt:=match s with
 |.FunctionDef _ _ b _ _ _ _ _ _ _=>b
 |_=>[]
def aL(s:Stmt):Scope:=match s with
 |.FunctionDef _ _ _ _ _ _ sc _ _ _=>sc
 |_=>{ kind:=.function,names:=[],isGenerator:=false,isCoroutine:=false }
noncomputable abbrev CX0:CXT:=λ_ _ _ _ _ _=>False
noncomputable abbrev E0:XK:=λ_ _ _=>False
theorem Wx{X:Cx}:Gz CX0 X E0:=λ_ _ _ _ _ _ _ h=>h.elim
structure Fun(K:PySem.W.Frag)(x qual:Str)(st:Stmt)(f:Addr)(fd:FuncData):Prop where
 ex:∃ (oc:Value) (od:Option Addr) (kV doc pm:Value) (an:Option Addr) (cdv ct:Value) (osl:Array (Option Value)),
  fd=fnOf x qual (bA st) (aZ st) (aL st) .none kV doc pm an cdv ct/\K.lookup f=some ⟨oc,od,.func fd,osl⟩/\codeIn K cdv qual=true
 kp:keepIn K (.ref f)=true
section
variable{P:Program}{w:World}{K:PySem.W.Frag}{mg:Str->Option Value}{base:Heap}
theorem Fun.ok{x qual:Str}{st:Stmt}{f:Addr}{fd:FuncData}{N ps:List Str}{k:Nat}{sp:Sp}(F:Fun K x qual st f fd)(S:bx N ps (aL st))(len:∀ vs H Q E,sp vs H Q E->vs.length=ps.length)
  (hbody:∀ (cdv:Value) (A:Around) (outer:List Env) (s:Shared) (H:Hp) (vs:List V) (Q:VK) (E:XK),dw k (A.deeper (envOfC qual (aL st) s.heap.objs.size f cdv))->sp vs H Q E ->
   ∃ t,PSs (vo CX0 P w K mg base N qual (aL st) f cdv A outer s H E).nox (aZ st) t/\t { nx:=λ_ H'=>Q .non H',rt:=Q } (start N vs) H):pJ P w K mg base CX0 (k+1) f fd ps sp:=by
 obtain⟨oc,od,kV,doc,pm,an,cdv,ct,osl,rfl,lk,hcd⟩:=F.ex;refine Te lk hcd S len λA outer s H vs Q E hr hsp=>?_;obtain⟨t,h,q⟩:=hbody cdv A outer s H vs Q E hr hsp;exact⟨t,h.nox,q⟩
theorem Fun.binds{x qual:Str}{st:Stmt}{f:Addr}{fd:FuncData}{ps:List Str}(F:Fun K x qual st f fd)
  (h:∀ (kV doc pm:Value) (an:Option Addr) (cdv ct:Value) (us:List Value),us.length=ps.length->bindArgs (fnOf x qual (bA st) (aZ st) (aL st) .none kV doc pm an cdv ct) ⟨us,[]⟩=pure (ps.zip us)):Binds K fd ps []:=by
 obtain⟨oc,od,kV,doc,pm,an,cdv,ct,osl,rfl,lk,hcd⟩:=F.ex;exact .all (h kV doc pm an cdv ct)
theorem cC{x qual:Str}{st:Stmt}{f:Addr}{oc:Value}{od an:Option Addr}{osl:Array (Option Value)}{kV doc pm cdv ct:Value}(l:K.lookup f=some ⟨oc,od,.func (fnOf x qual (bA st) (aZ st) (aL st) .none kV doc pm an cdv ct),osl⟩)
  (c:codeIn K cdv qual=true)(k:keepIn K (.ref f)=true):Fun K x qual st f (fnOf x qual (bA st) (aZ st) (aL st) .none kV doc pm an cdv ct):=⟨⟨oc,od,kV,doc,pm,an,cdv,ct,osl,rfl,l,c⟩,k⟩
end
theorem qx{A:Around}{k:Nat}(hr:dw k A):A.units+1<cLine:=Nat.lt_of_le_of_lt (Nat.add_le_add_left (by decide:1<=64) _) hr.units
theorem yE{n:Nat}(h:n<=1000):n<sizeLine:=Nat.lt_of_le_of_lt h (by decide)
section
variable{X:Cx}
theorem pv(i:Nat){x:Str}{pos:Pos}(hN:X.N[i]?=some x:=by rfl)(hv:Vis X.env.scope x:=by first|exact Or.inl rfl|exact Or.inr (Or.inl rfl)|exact Or.inr (Or.inr rfl))(hd:(x==("__debug__":Str))=false:=by decide)
  (hcd:(x==("__classdict__":Str))=false:=by decide):PE X (.Name x pos) (iZ i):=Gj hN hv hd hcd
end
theorem CV{c A B:Prop}[Decidable c](h1:c->A)(h2:¬c->B):if c then A else B:=by
 by_cases h:c
 ·rw[Zag h];exact h1 h
 ·rw[Zae h];exact h2 h
def aP(H H':Hp):Prop:=∀ b o,H b=some o->H' b=some o
theorem aP.refl(H:Hp):aP H H:=λ_ _ h=>h
theorem aP.trans{H H1 H2:Hp}(a:aP H H1)(b:aP H1 H2):aP H H2:=λc o h=>b c o (a c o h)
theorem aP.free{H H':Hp}(e:aP H H'){l:Addr}(h:H' l=Option.none):H l=Option.none:=by
 cases q:H l with
 |none=>rfl
 |some o=>
  rw[e l o q] at h;cases h
theorem aP.seq{K:PySem.W.Frag}{H H':Hp}{a:Addr}{xs:List V}(e:aP H H')(h:SqL K H a xs):SqL K H' a xs:=by
 rcases h with(h|⟨o,h⟩)|h
 ·exact .inl (.inl (e _ _ h))
 ·exact .inl (.inr ⟨o,e _ _ h⟩)
 ·exact .inr h
end L2
set_option maxHeartbeats 4000000
namespace Mth
def sub(l m:List Bool):Bool:=(List.range l.length).all λi=>!l.getD i false||m.getD i false
theorem QJ(n p:Nat):(n/2^p) &&& 1=(n.testBit p).toNat:=by
 have h:=Nat.testBit_eq_decide_div_mod_eq (x:=n) (i:=p);rw[Nat.and_one_is_mod,h];by_cases e:n/2^p%2=1
 ·simp[e]
 ·have:n/2^p%2=0:=by omega
  simp[this]
def pl(W:Nat)(c:Int×Int):Nat:=c.2.toNat*W+c.1.toNat
def cellOf(W:Nat)(i:Nat):Int×Int:=(((i%W:Nat):Int),((i/W:Nat):Int))
structure InR(W H:Nat)(c:Int×Int):Prop where
 c0:0<=c.1
 c1:c.1<W
 r0:0<=c.2
 r1:c.2<H
theorem yF(W i:Nat):pl W (cellOf W i)=i:=by
 unfold pl cellOf;simp only[ZaQ];exact Nat.div_add_mod' i W
theorem yG{W H:Nat}{i:Nat}(h:i<W*H):InR W H (cellOf W i):=by
 have hW:0<W:=by
  rcases Nat.eq_zero_or_pos W with e|e
  ·subst e;simp at h
  ·exact e
 refine⟨Zbr _,?_,Zbr _,?_⟩
 ·exact Int.ofNat_lt.mpr (Nat.mod_lt _ hW)
 ·exact Int.ofNat_lt.mpr (Nat.div_lt_of_lt_mul h)
def Kc(W:Nat)(ps:List (Int×Int)):Nat:=ps.foldl (λn c=>n ||| 2^pl W c) 0
theorem Kd(W:Nat)(ps:List (Int×Int))(c:Int×Int):Kc W (ps++[c])=Kc W ps ||| 2^pl W c:=by
 unfold Kc;rw[List.foldl_append];rfl
def pick(W k:Nat)(q:Nat->Bool):List (Int×Int):=((List.range k).filter q).map (cellOf W)
theorem jY(W k:Nat)(q:Nat->Bool):(pick W k q).length<=k:=by
 unfold pick;rw[List.length_map];exact ZaF (Za1 _ _) (by simp)
end Mth
namespace L2
open PySem PySem.Spec PyProof.Rows
theorem pK{env:Env}:∀ (names:List (Str×NameKind)) (cs:List (Str×Addr)),(∀ x∈names,x.2=.free->∃ c,env.cells.lookup x.1=some c) ->
  (∀ x c,cs.lookup x=some c->env.cells.lookup x=some c) ->
  ∃ cl,(forIn names cs λx s=>if(x.snd==NameKind.free)=true then do let d <-cellOf env x.fst;pure (ForInStep.yield ((x.fst,d)::s)) else pure (ForInStep.yield s):Sem _)=pure cl /\
   (∀ x c,cl.lookup x=some c->env.cells.lookup x=some c)/\(∀ x c,cs.lookup x=some c->cl.lookup x=some c)/\∀ x,(x,NameKind.free)∈names->∃ c,cl.lookup x=some c
 |[],cs,_,h2=>⟨cs,rfl,h2,λ_ _ e=>e,λ_ h=>nomatch h⟩
 |(n,k)::r,cs,h1,h2=>by
  rw[List.forIn_cons];by_cases hk:k=.free
  ·subst hk;obtain⟨c,hc⟩:=h1 (n,.free) List.mem_cons_self rfl;have ec:cellOf env n=pure c:=by unfold cellOf;simp only[hc]
   obtain⟨cl,e,p1,p2,p3⟩:=pK r ((n,c)::cs) (λx hx=>h1 x (List.mem_cons_of_mem _ hx)) (λx d e=>by
    rw[List.lookup_cons] at e;by_cases hx:x=n
    ·subst hx;simp at e;subst e;exact hc
    ·have hb:(x==n)=false:=beq_eq_false_iff_ne.mpr hx;rw[hb] at e;exact h2 x d e)
   refine⟨cl,?_,p1,λx d e'=>?_,λx hx=>?_⟩
   ·simp only[beq_self_eq_true,ZbI,ec];exact e
   ·by_cases hx:x=n
    ·subst hx;have:=h2 _ _ e';rw[hc] at this;cases this;exact p2 x c (by simp)
    ·have hb:(x==n)=false:=beq_eq_false_iff_ne.mpr hx;exact p2 x d (by rw[List.lookup_cons,hb];exact e')
   ·rcases Zaw.mp hx with e|hx
    ·cases e;exact⟨c,p2 n c (by simp)⟩
    ·exact p3 x hx
  ·obtain⟨cl,e,p1,p2,p3⟩:=pK r cs (λx hx=>h1 x (List.mem_cons_of_mem _ hx)) h2;have hb:(k==NameKind.free)=false:=by simpa using hk
   refine⟨cl,?_,p1,p2,λx hx=>?_⟩
   ·simp only[hb,Zbg,Zbh];exact e
   ·rcases Zaw.mp hx with e|hx
    ·cases e;exact absurd rfl hk
    ·exact p3 x hx
theorem GC{scope:Scope}{env:Env}(h:∀ x∈scope.names,x.2=.free->∃ c,env.cells.lookup x.1=some c):∃ cl,closureFor scope env=pure cl /\
  (∀ x c,cl.lookup x=some c->env.cells.lookup x=some c)/\∀ x,(x,NameKind.free)∈scope.names->∃ c,cl.lookup x=some c:=by
 obtain⟨cl,e,p1,_,p3⟩:=pK scope.names [] h (λ_ _ e=>nomatch e);refine⟨cl,?_,p1,p3⟩;simp only[closureFor];rw[e];rfl
noncomputable abbrev lY(env:Env)(x:Str×NameKind):Str×NameKind:=if(x.2==NameKind.free&&env.scope.kind==.function&&env.kindOf x.1==some .cell)=true then(x.1,NameKind.cell) else x
theorem Ke(env:Env)(x:Str×NameKind):(lY env x).1=x.1:=by unfold lY;split<;>rfl
theorem qy{env:Env}:∀ (names:List (Str×NameKind)) (x:Str),(names.map (lY env)).lookup x=(names.lookup x).map λk=>(lY env (x,k)).2
 |[],x=>rfl
 |(n,k)::r,x=>by
  rw[Zan];have e1:lY env (n,k)=(n,(lY env (n,k)).2):=by
   have:=Ke env (n,k);cases h:lY env (n,k) with
   |mk a b=>rw[h] at this;cases this;rfl
  rw[e1,List.lookup_cons,List.lookup_cons,qy r x];by_cases hx:x=n
  ·subst hx;simp
  ·have hb:(x==n)=false:=beq_eq_false_iff_ne.mpr hx;rw[hb]
theorem xV(scope:Scope)(env:Env):(relabel scope env).names=scope.names.map (lY env):=by
 unfold relabel;show List.map _ _=_
 refine Za4 λx _=>?_;obtain⟨n,k⟩:=x;rfl
theorem je(scope:Scope)(env:Env)(x:Str):(relabel scope env).names.lookup x=(scope.names.lookup x).map λk=>(lY env (x,k)).2:=by
 rw[xV,qy]
theorem iM{scope:Scope}{env:Env}{x:Str}{k:NameKind}(hk:k≠.free)(h:scope.names.lookup x=some k):(relabel scope env).names.lookup x=some k:=by
 rw[je,h];simp[lY,hk]
theorem qz{scope:Scope}{env:Env}{x:Str}(h:scope.names.lookup x=some .free):(relabel scope env).names.lookup x=some .cell\/(relabel scope env).names.lookup x=some .free:=by
 rw[je,h];simp only[ZbD,lY];split
 ·exact .inl rfl
 ·exact .inr rfl
theorem GF{scope:Scope}{env:Env}{x:Str}(h0:scope.names.lookup x≠some .cell)(h:(relabel scope env).names.lookup x=some .cell\/(relabel scope env).names.lookup x=some .free):scope.names.lookup x=some .free:=by
 rw[je] at h;cases e:scope.names.lookup x with
 |none=>rw[e] at h;simp at h
 |some k=>
  by_cases hk:k=.free
  ·rw[hk]
  ·rw[e] at h;simp[lY,hk] at h;subst h;exact absurd e h0
theorem lookup_mem{β:Type}:∀ {l:List (Str×β)}{x:Str}{v:β},l.lookup x=some v->(x,v)∈l
 |[],_,_,h=>nomatch h
 |(n,k)::r,x,v,h=>by
  rw[List.lookup_cons] at h;by_cases hx:x=n
  ·subst hx;simp at h;subst h;exact List.mem_cons_self
  ·have hb:(x==n)=false:=beq_eq_false_iff_ne.mpr hx;rw[hb] at h;exact List.mem_cons_of_mem _ (lookup_mem h)
noncomputable abbrev Cx.comp(X:Cx)(N:List Str)(scope:Scope)(cl:List (Str×Addr))(C:Addr)(s2:Shared)(H2:Hp)(fp:List Addr):Cx where
 prog:=X.prog
 w:=X.w
 K:=X.K
 mg:=X.mg
 base:=X.base
 A:=X.A
 N:=N
 s₀:=s2
 H₀:=H2
 env:=compEnvC scope cl C X.env
 outer:=X.stack
 stack:=X.stack
 ex:=fp
 fn:=λ_=>false
 calm:=X.calm
 pn:=[]
 xe:=λ_ _=>False
def Ab(XN N:List Str)(xs scope:Scope)(fr:List (Option Nat)):Bool:=
 decide (fr.length=N.length)&&(scope.kind==.function)&&(scope.names.all λx=>!(x.2==.cell))&&(scope.names.all λx=>!(x.2==.local)||scope.names.lookup x.1==some .local) &&
 (scope.names.all λx=>!(x.2==.free)||(xs.names.lookup x.1==some .cell||xs.names.lookup x.1==some .free)) &&
 (List.range N.length).all λj=>match fr[j]?,N[j]? with
  |some (some i),some x=>decide (XN[i]?=some x)&&(scope.names.lookup x==some .free)
  |_,_=>true
theorem CW{XN N:List Str}{xs scope:Scope}{fr:List (Option Nat)}(h:Ab XN N xs scope fr=true) :
  fr.length=N.length/\scope.kind=.function/\(∀ x∈scope.names,x.2≠.cell)/\(∀ x∈scope.names,x.2=.local->scope.names.lookup x.1=some .local) /\
  (∀ x∈scope.names,x.2=.free->xs.names.lookup x.1=some .cell\/xs.names.lookup x.1=some .free) /\
  ∀ (j i:Nat) (x:Str),fr[j]?=some (some i)->N[j]?=some x->XN[i]?=some x/\scope.names.lookup x=some .free:=by
 unfold Ab at h;simp only[Bool.and_eq_true,decide_eq_true_eq,Za6] at h;obtain⟨⟨⟨⟨⟨h1,h2⟩,h3⟩,h4⟩,h5⟩,h6⟩:=h;refine⟨h1,by simpa using h2,λx hx=>by simpa using h3 x hx,λx hx e=>?_,λx hx e=>?_,λj i x e1 e2=>?_⟩
 ·have:=h4 x hx;simp[e] at this;exact this
 ·have:=h5 x hx;simp[e] at this;exact this
 ·have hj:j<N.length:=(Zac.mp e2).1;have:=h6 j (ZaA.mpr hj);rw[e1,e2] at this;simpa using this
def frσ(fr:List (Option Nat))(σ:St):St:=fr.map λo=>match o with
 |some i=>match σ[i]? with
  |some v=>v
  |none=>none
 |none=>none
theorem QK{fr:List (Option Nat)}{σ:St}{j:Nat}{v:V}(h:(frσ fr σ)[j]?=some (some v)):∃ i,fr[j]?=some (some i)/\σ[i]?=some (some v):=by
 unfold frσ at h;rw[List.getElem?_map] at h;cases e:fr[j]? with
 |none=>rw[e] at h;cases h
 |some o=>
  rw[e] at h;cases o with
  |none=>cases h
  |some i=>
   simp only[ZbD] at h;cases e2:σ[i]? with
   |none=>rw[e2] at h;cases h
   |some w=>rw[e2] at h;exact⟨i,rfl,by simpa[e2] using h⟩
def QL(X:Cx)(ifs:List Expr)(t:TT):Prop:=
 ∀ (pins:List (Addr×Obj)) (s:Shared) (σ:St) (H:Hp) (Q:Bool->Hp->Prop),Inv X pins σ H s->t σ H Q ->
  wpAny (model X.prog X.w) X.A (forIn ifs true λc r=>if r=true then do let ok <-isTrue c X.env (eval c X.env);pure (ForInStep.yield ok) else pure (ForInStep.yield r)) (TP X pins σ Q) X.xe s
def Wy:TT:=λ_ H Q=>Q true H
theorem vp{X:Cx}:QL X [] Wy:=λ_ _ _ H _ I h=>wpAny_tests_nil ⟨H,I,h⟩
theorem vq{X:Cx}{c:Expr}{t:TT}(h:PT X c t):QL X [c] t:=λpins s σ H Q I hw=>wpAny_tests_one (h pins s σ H Q I hw)
def Wz(D:Addr)(tc:TT)(te:TE):TS:=λE σ H=>tc σ H λb H1=>if b=true then te σ H1 λv H2=>∃ ys,H2 D=some (.lst ys)/\ys.length<sizeLine/\E.nx σ (upd H2 D (.lst (ys++[v]))) else E.nx σ H1
def endC(Q:VK)(D:Addr):Ends:={ nx:=λ_ H=>Q (.ref D) H,rt:=λ_ _=>False }
def CZ(wi:TI)(fr:List (Option Nat))(g:TG)(tc:TT)(te:TE):TE:=λσ H Q=>wi σ H λJ H1=>∀ D,H1 D=none->∃ W:Nat->Nat->St->Hp->Prop,(∃ m,W 0 m (frσ fr σ) (upd H1 D (.lst [])))/\∀ i m σ H,W i m σ H ->
 (J.stop i H/\(endC Q D).nx σ H)\/(J.go i H/\∃ N:St->Hp->Prop,(∀ σ' H',N σ' H'->∃ m',m'<m/\W (i+1) m' σ' H')/\∀ x H',J.yld i H x H'->g x σ H' λσ2 H2=>Wz D tc te { endC Q D with nx:=N,ct:=N,bk:=(endC Q D).nx } σ2 H2)
section
variable{prog:Program}{w:World}{A:Around}{R:Result->Shared->Prop}{s:Shared}
theorem Kf{elt target iter:Expr}{ifs:List Expr}{scope:Scope}{pos:Pos}{it acc:Value}{env:Env}(I:Nat->Shared->Prop)
  (turn:∀ n s,I n s->wpAny (model prog w) A (pyNext it) (λr s₁=>match r with
   |none=>R (.ok .next) s₁
   |some v=>wpAny (model prog w) A (letOwnedTupleGo target it v) (λ_ s₁=>wpAny (model prog w) A (assign target env v) (λ_ s₂=>
     wpAny (model prog w) A (forIn ifs true λc r=>if r=true then do let ok <-isTrue c env (eval c env);pure (ForInStep.yield ok) else pure (ForInStep.yield r)) (λok s₃=>
      if ok=true then wpAny (model prog w) A (eval elt env) (λx s₄=>
       wpAny (model prog w) A (call (.builtin "list.append") [acc,x]) (λ_ s₅=>∃ m,m<n/\I m s₅) (notedBy (model prog w) A env λe s'=>R (.error e) s') s₄) (notedBy (model prog w) A env λe s'=>R (.error e) s') s₃
      else ∃ m,m<n/\I m s₃) (notedBy (model prog w) A env λe s'=>R (.error e) s') s₂) (notedBy (model prog w) A env λe s'=>R (.error e) s') s₁) (notedBy (model prog w) A env λe s'=>R (.error e) s') s₁) (notedBy (model prog w) A env λe s'=>R (.error e) s') s)
  (n:Nat)(h:I n s) :
  codeAny (model prog w) A (.compLoop (.ListComp elt [⟨target,iter,ifs,0⟩] scope pos) 0 it acc env) R s:=by
 refine codeAny_loop rfl I (λn s hI=>?_) n h;show wpAny _ A ((compTurn (.ListComp elt [⟨target,iter,ifs,0⟩] scope pos) 0 it acc env).onRaise (λx=>do noteFrame x env;theTreesLotGoes x)) _ _ s
 refine wpAny_noted ?_;rw[compTurn_list];refine Zaa (wpAny_standAt (Zaa (Za8 (turn n s hI) (λr s₁ h₁=>?_) λ_ _ h'=>h')));cases r with
 |none=>exact Zaf h₁
 |some v=>
  refine Zaa (Za8 h₁ (λ_ s₁' h₁'=>?_) λ_ _ h'=>h');refine Zaa (Za8 h₁' (λ_ s₂ h₂=>Zaa (Za8 h₂ (λok s₃ h₃=>?_) λ_ _ h'=>h')) λ_ _ h'=>h');cases ok with
  |false=>exact Zaf ⟨rfl,h₃⟩
  |true=>
   exact Zaa (Zaa (Za8 h₃ (λx s₄ h₄=>Zaa (Za8 h₄ (λ_ s₅ h₅=>Zaf (Zaf ⟨rfl,h₅⟩)) λ_ _ h'=>h')) λ_ _ h'=>h'))
end
structure Apart(X:Cx)(pins:List (Addr×Obj))(C:Addr):Prop where
 ne:C≠X.env.locals
 ab:X.s₀.heap.objs.size<=C
 cells:∀ x c,X.env.cells.lookup x=some c->c≠C
 pins:∀ p∈X.pn++pins,p.1≠C
section
variable{X:Cx}{elt tg iter:Expr}{ifs:List Expr}{scope:Scope}{pos pos':Pos}{wi:TI}{g:TG}{tc:TT}{te:TE}{pins:List (Addr×Obj)}{σ:St}{H:Hp}{s:Shared}
theorem Mj(N:List Str)(fr:List (Option Nat))(hc:X.calm=true)(hi:PI X tg iter wi)(hg:∀ cl C s2 H2 fp,PG (X.comp N scope cl C s2 H2 fp) tg g)
  (ht:∀ cl C s2 H2 fp,QL (X.comp N scope cl C s2 H2 fp) ifs tc)(he:∀ cl C s2 H2 fp,PE (X.comp N scope cl C s2 H2 fp) elt te)
  (ok:Ab X.N N X.env.scope scope fr=true)(hs:∀ x,foldedSetIterable iter X.env x=pure x){Q:VK}{Q':Value->Shared->Prop}{use:Option (Value->Sem Unit)}
  (I:Inv X pins σ H s)(h:CZ wi fr g tc te σ H Q)
  (fin:∀ D C s' H',Inv X pins σ H' s'->H' C=none->Apart X pins C->(∃ m,s'.heap.Ns C m)->Q (.ref D) H'->compPost (model X.prog X.w) X.A X.xe use Q' (.ref D) C (.ok .next) s') :
  wpAny (model X.prog X.w) X.A (comprehension (.ListComp elt [⟨tg,iter,ifs,0⟩] scope pos) scope X.env pos' (newList []) false (eval iter X.env) use) Q' X.xe s:=by
 obtain⟨o1,o2,o3,o4,o5,o6⟩:=CW ok;obtain⟨cl,hclos,c1,c2⟩:=GC (scope:=scope) (env:=X.env) (λx hx hf=>I.ok.has x.1 (o5 x hx hf));refine wpAny_comprehension_free (use:=use) rfl hs hclos o2 o4 (thn (hi pins s σ H _ I h) λxv s1 h1=>thn h1 λitv s2 h2=>?_);obtain⟨it,fp,tn,J,H2,rfl,I2,T,st2,f2,hW⟩:=h2;refine wpAny_newObj_type (wpAny_newFunctionEnv o3 (by intro y hy;simp at hy) (λh₁ hns₁ hsb₁=>?_) o2)
 dsimp only at hns₁ hsb₁ ⊢;generalize hHH:s2.heap.push { cls:=.type "list",dict:=none,data:=.seq ([]:List Value).toArray }=HH at hns₁ hsb₁ ⊢
 have hC:HH.objs.size=s2.heap.objs.size+1:=by rw[<-hHH,Heap.size_push]
 have hDC:s2.heap.objs.size≠HH.objs.size:=by rw[hC];exact ZaD (Nat.lt_succ_self _)
 have hCle:s2.heap.objs.size<=HH.objs.size:=by rw[hC];exact ZbZ _
 have neC:∀ b,b<s2.heap.objs.size->b≠HH.objs.size:=λb hb=>by rw[hC];exact ZaD (Nat.lt_succ_of_lt hb)
 have old:∀ b o,s2.heap.get? b=some o->h₁.get? b=some o:=λb o e=>hsb₁.extBut b o (neC b (Zam e)) (Zad _ (hHH▸Zad _ e));have atD:h₁.get? s2.heap.objs.size=some { cls:=.type "list",data:=.seq ([]:List Value).toArray }:=hsb₁.extBut _ _ hDC (Zad _ (hHH▸Zar _ rfl));have ltf:∀ b∈fp,b<s2.heap.objs.size:=λb hb=>let⟨o,e,_⟩:=T.obj _ _ st2 b hb;Zam e;have ltc:∀ x c,X.env.cells.lookup x=some c->c<s2.heap.objs.size:=λx c e=>let⟨v,q⟩:=I2.cell x c e;q.lt;have ltp:∀ p∈X.pn++pins,p.1<s2.heap.objs.size:=λp hp=>Zam (I2.pin p hp).1;have fresh:H2 s2.heap.objs.size=none:=I2.hok.fresh (Zai _);have freshC:H2 HH.objs.size=none:=I2.hok.fresh hCle;have ap:Apart X pins HH.objs.size:=⟨ZbX (Zap I2.lt hCle),ZaF I2.sz hCle,λx c e=>neC c (ltc x c e),λp hp=>neC _ (ltp p hp)⟩;have okY:(X.comp N scope cl HH.objs.size s2 H2 fp).Ok:={
  mod:=I2.ok.mod
  kind:=o2
  glob:=I2.ok.glob
  blt:=I2.ok.blt
  above:=hCle
  inj:=λx y c a b=>I2.ok.inj x y c (c1 _ _ a) (c1 _ _ b)
  has:=λx hx=>c2 x (lookup_mem (GF (λz=>o3 _ (lookup_mem z) rfl) hx))
  cab:=λx c hx _=>by cases hx
  hd:=I2.ok.hd
  frames:=I2.ok.frames
  stk:=.inl rfl
  exf:=λb hb=>⟨neC b (ltf b hb),λx c e=>(f2 b hb).2.2.2.2.1 x c (c1 x c e)⟩
  bs:=I2.bs
  bsz:=ZaF I2.ok.bsz I2.sz
  noex:=λb o e hb=>by
   rcases(f2 b hb).2.2.2.1 with z|z
   ·exact I2.ok.noex b o e z
   ·exact absurd (Zap (Zam e) (ZaF I2.ok.bsz z)) (Zbp _)
  exfs:=λb hb hf=>by
   rcases Zaw.mp (I2.zP b hf) with z|z
   ·exact(f2 b hb).2.1 z
   ·exact(f2 b hb).2.2.1 z
  pH:=I2.stack
  frf:=I2.zQ }
 have IY:Inv (X.comp N scope cl HH.objs.size s2 H2 fp) [] (frσ fr σ) (upd H2 s2.heap.objs.size (.lst [])) { s2 with heap:=h₁,toks:=s2.toks+([]:List (Str×Value)).length }:={
  ok:=okY
  os:=rfl
  bare:=I2.bare
  base:=Un.laid old (Zai _) fresh
  loc:=by
   refine⟨_,hns₁,λj x v e1 e2 e3=>?_⟩;obtain⟨i,f1,f2'⟩:=QK e2;obtain⟨g1,g2⟩:=o6 j i x f1 e1;have k2:=o5 _ (lookup_mem g2) rfl;obtain⟨m2,hm2,l2⟩:=I2.loc;obtain⟨u,ru,lk⟩:=l2 i x v g1 f2' (.inr k2);refine⟨u,ru,.inr ⟨qz g2,?_⟩⟩;obtain⟨c,hcl⟩:=c2 x (lookup_mem g2);refine⟨c,hcl,?_⟩;rcases lk with⟨k,_⟩|⟨_,c',e',z⟩
   ·rcases k2 with k2|k2
    ·rw[show X.env.kindOf x=X.env.scope.names.lookup x from rfl,k2] at k;cases k
    ·rw[show X.env.kindOf x=X.env.scope.names.lookup x from rfl,k2] at k;cases k
   ·rw[c1 x c hcl] at e';cases e';obtain⟨oc,hoc,hd⟩:=z;exact⟨oc,old c oc hoc,hd⟩
  cell:=λx c e=>by
   obtain⟨v,oc,hoc,hd⟩:=I2.cell x c (c1 x c e);exact⟨v,oc,old c oc hoc,hd⟩
  free:=(aq (ZaX hDC)).trans freshC
  freeC:=λx c e=>by
   rw[aq (ZaD (ltc x c (c1 x c e)))];exact I2.freeC x c (c1 x c e)
  pin:=λp hp=>by cases hp
  hok:=I2.hok.laid old (Zai _) ⟨Zbb _,[],0,.nil,atD⟩
  len:=by unfold frσ;rw[List.length_map];exact o1 }
 have stat:∀ {H':Hp}{pp:List (Addr×Obj)},pp=[]->(∀ b∈fp,H' b=none)->∀ b∈fp,vd (X.comp N scope cl HH.objs.size s2 H2 fp) pp H' b:=λ{H' pp} hp hn b hb=>by
  subst hp;exact⟨hn b hb,neC b (ltf b hb),λz=>okY.exfs b hb z,.inl hb,λx c e=>(f2 b hb).2.2.2.2.1 x c (c1 x c e),λp hp=>by cases hp⟩
 have back:∀ {σ':St}{H':Hp}{s':Shared},Inv (X.comp N scope cl HH.objs.size s2 H2 fp) [] σ' H' s'->Inv X pins σ H' s':=λ{σ' H' s'} I'=>
  I2.call' (ch:=fp) I'.os I'.base I'.hok I'.bare λb hb=>⟨(f2 b hb).2.2.2.1,(f2 b hb).2.1,(f2 b hb).2.2.2.2.1,(f2 b hb).2.2.2.2.2⟩
 have loop:∀ s₃:Shared,s₃={ s2 with heap:=h₁,toks:=s2.toks+([]:List (Str×Value)).length } ->
   codeAny (model X.prog X.w) X.A (.compLoop (.ListComp elt [⟨tg,iter,ifs,0⟩] scope pos) 0 (.ref it) (.ref s2.heap.objs.size) (compEnvC scope cl HH.objs.size X.env))
    (compPost (model X.prog X.w) X.A X.xe use Q' (.ref s2.heap.objs.size) HH.objs.size) s₃:=by
  rintro s₃ rfl;obtain⟨W,⟨m0,w0⟩,turn⟩:=hW s2.heap.objs.size fresh;refine Kf (λn s'=>∃ i σ' H',Inv (X.comp N scope cl HH.objs.size s2 H2 fp) [] σ' H' s'/\tn i s'.heap/\(∀ b∈fp,H' b=none)/\W i n σ' H') ?_ m0
   ⟨0,_,_,IY,T.keep _ _ _ st2 λb _ o e=>old b o e,λb hb=>by rw[aq (ZaD (ltf b hb))];exact(f2 b hb).1,w0⟩
  rintro n s3 ⟨i,σ3,H3,I3,st3,fr3,w3⟩;rcases turn i n σ3 H3 w3 with⟨stop,q⟩|⟨go,Nx,hN,step⟩
  ·refine thn (T.done (X.comp N scope cl HH.objs.size s2 H2 fp) rfl rfl rfl hc i [] s3 σ3 H3 _ I3 (stat rfl fr3) st3 stop) ?_;rintro r s4 ⟨hr,I4⟩;subst hr;obtain⟨m4,hm4,_⟩:=I4.loc;exact fin _ _ s4 H3 (back I4) I4.free ap ⟨m4,hm4⟩ q
  ·refine thn (T.item (X.comp N scope cl HH.objs.size s2 H2 fp) rfl rfl rfl hc i [] s3 σ3 H3 _ I3 (stat rfl fr3) st3 go) ?_;rintro r s4 ⟨u,hr,h4⟩;subst hr;refine thn h4 ?_;rintro _ s5 ⟨x,H5,I5,r5,y5,st5,fr5⟩;have I5':=I5.pinned (stat rfl fr5) (T.obj _ _ st5);refine Za8 (hg cl HH.objs.size s2 H2 fp _ s5 σ3 H5 x u _ I5' r5 (step x H5 y5)) (?_) λ_ _ f=>f.elim;rintro _ s6 ⟨σ6,H6,I6,q6⟩;have again:∀ {s7:Shared}{σ7:St}{H7:Hp},Inv (X.comp N scope cl HH.objs.size s2 H2 fp) ([]++vf fp s5.heap) σ7 H7 s7->Nx σ7 H7 ->
     ∃ m,m<n/\∃ i σ' H',Inv (X.comp N scope cl HH.objs.size s2 H2 fp) [] σ' H' s7/\tn i s7.heap/\(∀ b∈fp,H' b=none)/\W i m σ' H':=λ{s7 σ7 H7} I7 n7=>by
    obtain⟨m',hm,w7⟩:=hN σ7 H7 n7;refine⟨m',hm,i+1,σ7,H7,I7.qw,T.keep _ _ _ st5 λb hb o e=>(I7.pin (b,o) (ZaN _ (ZaN _ (kO hb e)))).1,λb hb=>?_,w7⟩;obtain⟨o,e,d⟩:=T.obj _ _ st5 b hb;exact(I7.pin (b,o) (ZaN _ (ZaN _ (kO hb e)))).2.1
   refine Za8 (ht cl HH.objs.size s2 H2 fp _ s6 σ6 H6 _ I6 q6) (?_) λ_ _ f=>f.elim;rintro b s7 ⟨H7,I7,q7⟩;cases b with
   |false=>
    rw[Zae (by decide)] at q7 ⊢
    exact again I7 q7
   |true=>
    rw[Zag rfl] at q7 ⊢;refine Za8 (he cl HH.objs.size s2 H2 fp _ s7 σ6 H7 _ I7 q7) (?_) λ_ _ f=>f.elim;rintro y s8 ⟨v,H8,I8,r8,q8⟩;obtain⟨ys,e8,l8,n8⟩:=q8;refine Za8 (sS (X:=X.comp N scope cl HH.objs.size s2 H2 fp) _ s8 σ6 H8 (.ref s2.heap.objs.size) [v] (.ref s2.heap.objs.size) [y] (λ_ H9=>Nx σ6 H9) I8 rfl (.cons r8 .nil) ⟨_,ys,v,rfl,rfl,e8,l8,n8⟩) (?_) λ_ _ f=>f.elim;rintro _ s9 ⟨_,H9,I9,_,n9⟩;exact again I9 n9
 exact codeAny_compStart_list (loop _ rfl) (T.self _ 0 _ _ _ (T.keep _ _ _ st2 λb _ o e=>old b o e) (loop _ rfl))
theorem gP(N:List Str)(fr:List (Option Nat))(hc:X.calm=true)(hi:PI X tg iter wi)(hg:∀ cl C s2 H2 fp,PG (X.comp N scope cl C s2 H2 fp) tg g)
  (ht:∀ cl C s2 H2 fp,QL (X.comp N scope cl C s2 H2 fp) ifs tc)(he:∀ cl C s2 H2 fp,PE (X.comp N scope cl C s2 H2 fp) elt te)
  (ok:Ab X.N N X.env.scope scope fr=true:=by kernel_rfl)(hs:∀ x,foldedSetIterable iter X.env x=pure x:=by intro _;rfl) :
  PE X (.ListComp elt [⟨tg,iter,ifs,0⟩] scope pos) (CZ wi fr g tc te):=by
 intro pins s σ H Q I h;rw[eval_ListComp];refine Mj (use:=none) N fr hc hi hg ht he ok hs I h λD C s' H' I' hn ap hm q=>?_;obtain⟨m,hm⟩:=hm;exact⟨m,hm,λh' sb=>⟨.ref D,H',I'.turned (t':=s'.toks) (λb o hb e=>(sb.2 b hb).trans e) hn ap.ne (.inr ap.ab) ap.cells ap.pins,rfl,q⟩⟩
end
section
variable{X:Cx}{pins:List (Addr×Obj)}{σ:List (Option V)}{H:Hp}{s:Shared}{h':Heap}
theorem Inv.qC{t':Nat}{ch:List Addr}(I:Inv X pins σ H s)(k:∀ b o,b ∉ ch->s.heap.get? b=some o->h'.get? b=some o)(hf:∀ b∈ch,vd X pins H b):Inv X pins σ H { s with heap:=h',toks:=t' }:=by
 have nit:∀ b u,H b=some u->b ∉ ch:=λb u e z=>by rw[(hf b z).1] at e;cases e
 refine I.step (g':=s.gens) (d':=s.drawn) (ch:=ch) (λb hb=>⟨(hf b hb).2.2.2.1,(hf b hb).2.1,(hf b hb).2.2.2.2.1,(hf b hb).2.2.2.2.2⟩) (λb o _ _ hc e _=>k b o hc e) (λb o _ _ hc e _=>⟨o.slots,k b o hc e⟩) (λ_ _ _ _ n=>n)
  (λb o hc e=>⟨o,k b o hc e⟩) (λ_ _ e=>e) (λ_ _ _ e=>e) (λb ps e=>⟨#[],by rw[e];simp⟩) (λm hm=>?_) (λb u e=>?_) I.bare
 ·obtain⟨o,es,ep,ho,r⟩:=hm;exact⟨o,es,ep,k _ o (λz=>(hf _ z).2.1 rfl) ho,r⟩
 ·refine(I.hok b u e).stay (λc v hc q=>k c v ?_ q) (λ_ q=>q) λ_ _ q=>q;rcases hc with z|z
  ·rw[z];exact nit b u e
  ·exact nit c _ z
theorem Inv.sV{t':Nat}{ch:List Addr}{a:Addr}{o:HO}(I:Inv X pins σ H s)(k:∀ b o,b ∉ ch->s.heap.get? b=some o->h'.get? b=some o)(hf:∀ b∈ch,vd X pins H b)(ha:s.heap.objs.size<=a)
  (new:cF X.prog X.w (upd H a o) h' a o):Inv X pins σ (upd H a o) { s with heap:=h',toks:=t' }:=by
 have hn:H a=none:=I.hok.fresh ha;have nit:∀ b u,H b=some u->b ∉ ch:=λb u e z=>by rw[(hf b z).1] at e;cases e
 have ne:∀ b ob,s.heap.get? b=some ob->b≠a:=λb ob e z=>by rw[z] at e;exact absurd (Zap (Zam e) ha) (Zbp _)
 refine I.step (g':=s.gens) (d':=s.drawn) (ch:=ch) (λb hb=>⟨(hf b hb).2.2.2.1,(hf b hb).2.1,(hf b hb).2.2.2.2.1,(hf b hb).2.2.2.2.2⟩) (λb o _ _ hc e _=>k b o hc e) (λb o _ _ hc e _=>⟨o.slots,k b o hc e⟩) (λb ob _ e n=>by rw[aq (ne b ob e)];exact n)
  (λb o hc e=>⟨o,k b o hc e⟩) (λb xs e=>by rw[aq (bB e hn)];exact e) (λb ob u e=>by rw[aq (bB e hn)];exact e) (λb ps e=>⟨#[],by rw[aq (bB e hn),e];simp⟩) (λm hm=>?_) (λb u e=>?_) I.bare
 ·obtain⟨o,es,ep,ho,r⟩:=hm;exact⟨o,es,ep,k _ o (λz=>(hf _ z).2.1 rfl) ho,r⟩
 ·by_cases hb:b=a
  ·subst hb;rw[au] at e;cases e;exact new
  ·rw[aq hb] at e;refine(I.hok b u e).stay (λc v hc q=>k c v ?_ q) (λc q=>by rw[aq (bB q hn)];exact q) λc xs q=>by rw[aq (bB q hn)];exact q
   rcases hc with z|z
   ·rw[z];exact nit b u e
   ·exact nit c _ z
end
def Itf(f:Nat->V)(n:Nat):It:=⟨λi _=>i<n,λi H x H'=>H'=H/\x=f i,λi _=>i=n⟩
def sgn(z:Str)(i:Nat):V:=.str ⟨#[z.cps.getD i 0]⟩
theorem yH{P:Program}{w:World}{A:Around}(hh:A.handled=none)(it:Addr)(z:Str)(t:Tok):Walks P w A it [it] [it] z.cps.size (SignAt z) (λi h=>h.IsStrIter it (strIterType z) z t i):=by
 unfold strIterType;split
 ·exact Walks.strAscii hh it z t
 ·exact Walks.strWide hh it z t
theorem Ml{P:Program}{w:World}{K:PySem.W.Frag}{tg:Expr}(it:Addr)(z:Str)(t:Tok):Turn P w K tg (Itf (sgn z) z.cps.size) [it] it (λi h=>h.IsStrIter it (strIterType z) z t i) where
 mem:=by simp
 obj:=λi h st b hb=>by
  have e:b=it:=by simpa using hb
  subst e;obtain⟨o,e,c,d⟩:=st;exact⟨o,e,λv z=>by rw[d] at z;cases z⟩
 keep:=λi h h' st k=>let⟨o,e,r⟩:=st;⟨o,k it (by simp) o e,r⟩
 item:=by
  intro X hP hw hK hc i pins s σ H E I hf st hg;subst hP hw hK;obtain⟨f0,f1,f2,f3,f4,f5⟩:=hf it (by simp)
  have W:=yH (P:=X.prog) (w:=X.w) (I.ok.hd hc) it z t;refine W.item i s _ _ hg st λv h' tk hv st' kk=>?_;obtain⟨c,u,hx,rfl⟩:=hv;have I1:Inv X pins σ H { s with heap:=h',toks:=tk }:=I.turned (λb o hb e=>kk b o (by simpa using hb) e) f0 f1 f3 f4 f5
  obtain⟨o,e,cc,d⟩:=id st';have ec:z.cps.getD i 0=c:=by rw[Array.getD_eq_getD_getElem?,hx];rfl
  refine⟨_,rfl,CK (s:={ s with heap:=h',toks:=tk }) e cc d (by unfold strIterType;split<;>decide) ⟨sgn z i,H,I1,⟨u,?_⟩,⟨rfl,rfl⟩,st',λb hb=>(hf b hb).1⟩⟩
  rw[ec]
 done:=by
  intro X hP hw hK hc i pins s σ H E I hf st hg;subst hP hw hK;have hg':i=z.cps.size:=hg;subst hg';obtain⟨f0,f1,f2,f3,f4,f5⟩:=hf it (by simp)
  have W:=yH (P:=X.prog) (w:=X.w) (I.ok.hd hc) it z t;exact W.done s _ _ st λh' tk kk=>⟨rfl,I.turned (λb o hb e=>kk b o (by simpa using hb) e) f0 f1 f3 f4 f5⟩
 self:=λA i s Q E st h=>by
  unfold strIterType at st;split at st
  ·exact wpAny_pyIter_striter_ascii st h
  ·exact wpAny_pyIter_striter_wide st h
def Ite(K:PySem.W.Frag)(a:Addr):It:=
 ⟨λi H=>∃ xs x,SqL K H a xs/\xs[i]?=some x,λi H x H'=>∃ p y,H p=none/\x=.ref p/\H'=upd H p (.tup [.int i,y])/\∀ xs,SqL K H a xs->xs[i]?=some y,λi H=>∃ xs,SqL K H a xs/\xs.length<=i⟩
theorem Kg{P:Program}{w:World}{K:PySem.W.Frag}{elts:List Expr}{x1:Nat}{pos:Pos}(a e it:Addr)(hei:e≠it) :
  Turn P w K (.Tuple elts x1 pos) (Ite K a) [e,it] e (λi h=>(∃ old,IsEnum h e it (i:Int) old)/\h.IsListIter it a i) where
 mem:=by simp
 obj:=λi h st b hb=>by
  obtain⟨⟨old,he⟩,o,ho,c,d⟩:=st;rcases Zaw.mp hb with z|z
  ·subst z;exact⟨_,he,λv q=>by cases q⟩
  ·have z:b=it:=by simpa using z
   subst z;exact⟨o,ho,λv q=>by rw[d] at q;cases q⟩
 keep:=λi h h' st k=>by
  obtain⟨⟨old,he⟩,hit⟩:=st;exact⟨⟨old,k e (by simp) _ he⟩,hit.at λo q=>k it (by simp) o q⟩
 item:=by
  intro X hP hw hK hc i pins s σ H E I hf st hg;subst hP hw hK;obtain⟨xs,x,hq,hx⟩:=hg;obtain⟨its,rv,p,hz⟩:=I.list hq;obtain⟨u,hu,ru⟩:=rv.get hx;obtain⟨⟨old,he⟩,hit⟩:=st;have hl:=p.isList;have hai:a≠it:=by
   rintro rfl;obtain⟨o1,e1,c1,_⟩:=hl;obtain⟨o2,e2,c2,_⟩:=hit;rw[e1] at e2;cases e2;rw[c1] at c2;exact absurd c2 (by decide)
  have hae:a≠e:=by
   rintro rfl;obtain⟨o1,e1,c1,_⟩:=hl;rw[he] at e1;cases e1;exact absurd (show Value.type "enumerate"=Value.type "list" from c1) (by decide)
  have D:=Draws.list (prog:=X.prog) (w:=X.w) (A:=X.A.in1) (I.ok.hd hc) it a hai its.toArray;have hlt:i<its.toArray.size:=by
   have:=(Zac.mp hu).1;simpa using this
  refine wpAny_pyNext_enum_itemD D he ⟨hit,hl⟩ hlt hei (by simp[hei,ZaX hae]) λv h1 tk hP ho hst hT hsz hk=>?_
  have ev:v=u:=by
   have hP':its.toArray[i]?=some v:=hP;rw[List.getElem?_toArray,hu] at hP';exact(Zab hP').symm
  subst ev;refine⟨_,rfl,wpAny_letOwnedTupleGo_enum ho λh2 he2 hs2=>?_⟩;have elt:e<s.heap.objs.size:=Zam he;have hT2:h2.get? s.heap.objs.size=some { cls:=.type "tuple",data:=.seq #[.int i tk,v] }:=(hs2.2 _ (ZbX elt)).trans hT;refine⟨.ref s.heap.objs.size,upd H s.heap.objs.size (.tup [.int i,x]),I.sV (ch:=[e,it]) (λb o hb q=>?_) hf (Zai _) ⟨by show 2<=sizeLine;decide,[.int i tk,v],.cons ⟨tk,rfl⟩ (.cons ru .nil),fu.mk hT2⟩,rfl,⟨_,x,I.hok.fresh (Zai _),rfl,rfl,λys hy=>by rw[I.mH hy hq];exact hx⟩,⟨⟨v,by simpa using he2⟩,?_⟩,λb hb=>?_⟩
  ·have h1':b≠e:=λz=>hb (by simp[z])
   have h2':b≠it:=λz=>hb (by simp[z])
   exact(hs2.2 b h1').trans (hk b o h1' h2' q)
  ·exact hst.1.at λo q=>(hs2.2 it (ZaX hei)).trans q
  ·rw[aq ?_]
   ·exact(hf b hb).1
   ·rcases Zaw.mp hb with z|z
    ·rw[z];exact ZaD elt
    ·have z:b=it:=by simpa using z
     rw[z];obtain⟨o2,e2,_⟩:=hit;exact ZaD (Zam e2)
 done:=by
  intro X hP hw hK hc i pins s σ H E I hf st hg;subst hP hw hK;obtain⟨xs,hq,hx⟩:=hg;obtain⟨its,rv,p,hz⟩:=I.list hq;obtain⟨⟨old,he⟩,hit⟩:=st;have hl:=p.isList;have ln:=rv.length;refine wpAny_pyNext_enum_end (I.ok.hd hc) he hit hl (by rw[List.getElem?_toArray];exact List.getElem?_eq_none_iff.mpr (by omega)) λh1 eb=>⟨rfl,?_⟩
  exact I.qC (t':=s.toks) (ch:=[e,it]) (λb o hb q=>eb b o (λz=>hb (by simp[z])) q) hf
 self:=λA i s Q E st h=>by
  obtain⟨⟨old,he⟩,_⟩:=st;exact wpAny_pyIter_enum he h
def Ti(K:PySem.W.Frag)(ta:TA):TI:=λσ H R=>ta σ H λvs H1=>∃ a,vs=[.ref a]/\(∃ xs,SqL K H1 a xs)/\R (Ite K a) H1
theorem QM{X:Cx}{l:Expr}{ta:TA}{elts:List Expr}{x1:Nat}{tpos p pos:Pos}(hg:Gl X "enumerate")(hm:X.mg "enumerate"=none)(ha:PA X [l] ta)(hs:starEach [l] X.env=[(false,eval l X.env)]:=by rfl) :
  PI X (.Tuple elts x1 tpos) (.Call (.Name "enumerate" p) [l] [] pos) (Ti X.K ta):=by
 intro pins s σ H R I h;refine Call_ (pI I hg hm boot_enumerate (Zbq (thn (ha pos pins s σ H _ I h) ?_) hs rfl));rintro us s1 ⟨vs,H1,I1,r1,q1⟩;obtain⟨a,e,⟨xs,hq⟩,q⟩:=q1;subst e;cases r1 with
 |cons r rr=>
  cases rr;cases r;obtain⟨its,rv,p,hz⟩:=I1.list hq;refine call_enumerate_list p.isList λh1 he hit hsz hk=>?_;refine wpAny_pyIter_enum he ?_;have I2:Inv X pins σ H1 { s1 with heap:=h1 }:=I1.kept (t':=s1.toks) hk;refine⟨s1.heap.objs.size+1,[s1.heap.objs.size+1,s1.heap.objs.size],_,_,H1,rfl,I2,Kg a _ _ (by simp),⟨⟨_,he⟩,hit⟩,λb hb=>?_,q⟩
  rcases Zaw.mp hb with z|z
  ·subst z;exact I1.CJ (ZbZ _) (I1.hok.fresh (ZbZ _))
  ·have z:b=s1.heap.objs.size:=by simpa using z
   subst z;exact I1.CJ (Zai _) (I1.hok.fresh (Zai _))
structure bu(K:PySem.W.Frag)(mg:Str->Option Value)(x:Str)(st:Stmt)(ps:List Str):Prop where
 ex:∃ (f:Addr) (fd:FuncData),mg x=some (.ref f)/\Fun K x x st f fd/\Binds K fd ps []
def FnAt(P:Program)(w:World)(K:PySem.W.Frag)(mg:Str->Option Value)(base:Heap)(x:Str)(k:Nat)(ps:List Str)(sp:Sp):Prop:=
 ∃ (f:Addr) (fd:FuncData),mg x=some (.ref f)/\keepIn K (.ref f)=true/\Binds K fd ps []/\pJ P w K mg base CX0 k f fd ps sp
theorem bu.ok{P:Program}{w:World}{K:PySem.W.Frag}{mg:Str->Option Value}{base:Heap}{x:Str}{st:Stmt}{ps N:List Str}{k:Nat}{sp:Sp}(D:bu K mg x st ps)(S:bx N ps (aL st))(len:∀ vs H Q E,sp vs H Q E->vs.length=ps.length)
  (hbody:∀ (f:Addr) (cdv:Value) (A:Around) (outer:List Env) (s:Shared) (H:Hp) (vs:List V) (Q:VK) (E:XK),dw k (A.deeper (envOfC x (aL st) s.heap.objs.size f cdv))->sp vs H Q E ->
   ∃ t,PSs (vo CX0 P w K mg base N x (aL st) f cdv A outer s H E).nox (aZ st) t/\t { nx:=λ_ H'=>Q .non H',rt:=Q } (start N vs) H):FnAt P w K mg base x (k+1) ps sp:=by
 obtain⟨f,fd,e,F,b⟩:=D.ex;exact⟨f,fd,e,F.kp,b,F.ok S len λcdv A outer s H vs Q E=>hbody f cdv A outer s H vs Q E⟩
section
variable{X:Cx}{k:Nat}{ps:List Str}{sp:Sp}{x:Str}{p pos:Pos}{e:Expr}{es:List Expr}{t:TA}
theorem aW(G:FnAt X.prog X.w X.K X.mg X.base x k ps sp)(hr:dw k X.A)(hg:Gl X x)(ha:PA X (e::es) t)(hdb:(x==("__debug__":Str))=false:=by decide)
  (he:starEach (e::es) X.env=(false,eval e X.env)::starEach es X.env:=by rfl)(hpl:(backTo pos (starEach es X.env)).any (·.1)=false:=by rfl):PE X (.Call (.Name x p) (e::es) [] pos) (lX sp [] E0 t):=by
 obtain⟨f,fd,e1,e2,e3,e4⟩:=G;exact Qv e4 hr hg e1 e2 e3 .nil Wx ha hdb he hpl
end
section
variable{X:Cx}{N:List Str}{scope:Scope}{cl:List (Str×Addr)}{C:Addr}{s2:Shared}{H2:Hp}{fp:List Addr}{x:Str}{pos:Pos}
theorem pvl(i:Nat)(hN:N[i]?=some x:=by rfl)(hv:scope.names.lookup x=some .local:=by rfl)(hd:(x==("__debug__":Str))=false:=by decide)(hcd:(x==("__classdict__":Str))=false:=by decide) :
  PE (X.comp N scope cl C s2 H2 fp) (.Name x pos) (iZ i):=Gj hN (.inl (iM (by decide) hv)) hd hcd
theorem pvf(i:Nat)(hN:N[i]?=some x:=by rfl)(hv:scope.names.lookup x=some .free:=by rfl)(hd:(x==("__debug__":Str))=false:=by decide)(hcd:(x==("__classdict__":Str))=false:=by decide) :
  PE (X.comp N scope cl C s2 H2 fp) (.Name x pos) (iZ i):=Gj hN (.inr (qz hv)) hd hcd
theorem glc(h:scope.names.lookup x=some .globalImplicit):Gl (X.comp N scope cl C s2 H2 fp) x:=iM (by decide) h
theorem cU{i:Nat}(hN:N.Nodup)(hi:N[i]?=some x)(hx:scope.names.lookup x=some .local):PG (X.comp N scope cl C s2 H2 fp) (.Name x pos) (u9 i):=
 eE hN hi (.inl (iM (by decide) hx)) (.inr (iM (by decide) hx))
end
section
variable{X:Cx}{x:Str}{z:Str}{pos:Pos}
theorem Dc(hg:Gl X x)(h:∃ t,X.mg x=some (.str z t))(hd:(x==("__debug__":Str))=false:=by decide):PE X (.Name x pos) (tC (.str z)):=by
 obtain⟨t,h⟩:=h;exact Ik hg h ⟨t,rfl⟩ hd
theorem Mm{n:String}(hg:Gl X x)(hm:X.mg x=none)(hv:bootBuiltins x=some (.type n))(hn:x≠"__name__":=by decide)(hd:(x==("__debug__":Str))=false:=by decide):PE X (.Name x pos) (tC (.ty n)):=
 Qq hg hm hv rfl hn hd
end
theorem tyL{K:PySem.W.Frag}{H:Hp}{p:Addr}{xs:List V}(h:H p=some (.lst xs)):tyV K "list" (.ref p) H:=.inl ⟨rfl,xs,SqL.of h⟩
theorem di{H:Hp}{p:Addr}{o:HO}(h:H p=none):aP H (upd H p o):=λb u e=>by rw[aq (bB e h)];exact e
theorem yI{H H1:Hp}{p:Addr}{o:HO}(h:H p=none)(s:aP H H1):aP H (upd H1 p o):=λb u e=>by rw[aq (bB e h)];exact s b u e
theorem aP.tup{K:PySem.W.Frag}{H H':Hp}{a:Addr}{xs:List V}(e:aP H H')(h:SqT K H a xs):SqT K H' a xs:=by
 rcases h with(h|⟨o,h⟩)|h
 ·exact .inl (.inl (e _ _ h))
 ·exact .inl (.inr ⟨o,e _ _ h⟩)
 ·exact .inr h
theorem Mp{α:Type}{xs:List α}{i:Int}(h0:0<=i)(h:i<xs.length):∃ v,atI xs i=some v/\xs[i.toNat]?=some v:=by
 have hl:i.toNat<xs.length:=by lia
 refine⟨xs[i.toNat],?_,by simp[hl]⟩
 have:=nO (xs:=xs) (j:=i.toNat) (v:=xs[i.toNat]) (by simp[hl])
 rwa [ZbE h0] at this
theorem Mq{K:PySem.W.Frag}{T:String}:PySem.W.kitOne K (.type T) (.type T)=some true:=by
 unfold PySem.W.kitOne;rw[Zag (by simp)]
def X6(J:It)(g:TG)(tb:TS)(D:Ends)(σ:St)(H:Hp):Prop:=∃ W:Nat->Nat->St->Hp->Prop,(∃ m,W 0 m σ H)/\∀ i m σ H,W i m σ H ->
 (J.stop i H/\D.nx σ H)\/(J.go i H/\∃ N:St->Hp->Prop,(∀ σ' H',N σ' H'->∃ m',m'<m/\W (i+1) m' σ' H')/\∀ x H',J.yld i H x H'->g x σ H' λσ2 H2=>tb { D with nx:=N,ct:=N,bk:=D.nx } σ2 H2)
def SameBut(p:Addr)(H H':Hp):Prop:=∀ b o,H b=some o->b≠p->H' b=some o
section
variable{X:Cx}{N:List Str}{scope:Scope}{cl:List (Str×Addr)}{C:Addr}{s2:Shared}{H2:Hp}{fp:List Addr}
theorem uD{es:List Expr}{k:Nat}{t:TGs}{n:Nat}{pos:Pos}(hc:X.calm=true)(h:PGs (X.comp N scope cl C s2 H2 fp) es t)
  (hn:(assignEach es (X.comp N scope cl C s2 H2 fp).env).length=n:=by rfl)(hst:(assignEach es (X.comp N scope cl C s2 H2 fp).env).findIdx? (·.1)=none:=by rfl):PG (X.comp N scope cl C s2 H2 fp) (.Tuple es k pos) (Um X.K n t):=Uo hc h hn hst
end
theorem jY{α β:Type}(f:α->β)(xs:List α):∀ js:List Nat,(js.filterMap ((xs.map f)[·]?)).length=(js.filterMap (xs[·]?)).length
 |[]=>rfl
 |j::js=>by
  cases e:xs[j]? with
  |none=>
   have e':(xs.map f)[j]?=none:=by rw[List.getElem?_map,e];rfl
   rw[List.filterMap_cons_none e,List.filterMap_cons_none e',jY f xs js]
  |some v=>
   have e':(xs.map f)[j]?=some (f v):=by rw[List.getElem?_map,e];rfl
   rw[List.filterMap_cons_some e,List.filterMap_cons_some e',Zaz,Zaz,jY f xs js]
section
theorem qD{xs:List V}{its:List Value}(r:Vals xs its){j:Nat}(h:j<its.toArray.size):∃ x,xs[j]?=some x/\RelV x its.toArray[j]:=by
 have hl:j<its.length:=by simpa using h
 have hx:j<xs.length:=by rw[r.length];exact hl
 obtain⟨u,hu,ru⟩:=r.get (i:=j) (x:=xs[j]) (by simp[hx])
 refine⟨xs[j],by simp[hx],?_⟩
 have:its.toArray[j]=u:=by
  rw[List.getElem?_eq_getElem hl] at hu;simpa using hu
 rw[this];exact ru
end
section
variable{k:Nat}
theorem Mr{A:Around}(hr:dw k A):A.units+32<cLine:=Nat.lt_of_le_of_lt (Nat.add_le_add_left (by decide:32<=64) _) hr.units
end
def Ac(H:Hp)(xs:List V)(ps:List (Int×Int)):Prop:=xs.length=ps.length/\∀ (j:Nat) (c:Int×Int),ps[j]?=some c->∃ a,xs[j]?=some (.ref a)/\H a=some (.tup [.int c.1,.int c.2])
section
variable{κ:Type}[DecidableEq κ]
def iD(kvs:List (κ×V))(k:κ):Option V:=(kvs.find? λkv=>decide (kv.1=k)).map (·.2)
def putK(kvs:List (κ×V))(k:κ)(v:V):List (κ×V):=
 if(kvs.any λkv=>decide (kv.1=k))=true then kvs.map (λkv=>if kv.1=k then(kv.1,v) else kv) else kvs++[(k,v)]
theorem mJ{p:κ×V}{r:List (κ×V)}{k:κ}(e:p.1=k):iD (p::r) k=some p.2:=by simp[iD,Zb0,e]
theorem jf{p:κ×V}{r:List (κ×V)}{k:κ}(e:¬p.1=k):iD (p::r) k=iD r k:=by simp[iD,Zb0,e]
theorem vy(k:κ):∀ kvs:List (κ×V),(kvs.any λkv=>decide (kv.1=k))=(iD kvs k).isSome
 |[]=>rfl
 |p::r=>by
  rw[Zb1];by_cases e:p.1=k
  ·simp only[mJ e,ZaB e,Bool.true_or,Option.isSome_some]
  ·rw[jf e,ZaC e,Bool.false_or];exact vy k r
theorem gY(kvs:List (κ×V))(k:κ)(v:V):(putK kvs k v).length<=kvs.length+1:=by
 unfold putK;split
 ·rw[List.length_map];omega
 ·rw[List.length_append,Zaz,ZbM];omega
theorem Ms{kvs:List (κ×V)}{k:κ}(v:V)(h:iD kvs k=none):putK kvs k v=kvs++[(k,v)]:=by
 unfold putK;rw[vy,h];exact Zae (by decide)
theorem mF.jZ{o:Option V}{u:Option Value}(r:mF o u):o.isSome=u.isSome:=by
 cases o with
 |none=>cases u with
  |none=>rfl
  |some _=>exact(show False from r).elim
 |some _=>cases u with
  |none=>exact(show False from r).elim
  |some _=>rfl
theorem mF.getD{o:Option V}{u:Option Value}{d:V}{d':Value}(r:mF o u)(rd:RelV d d'):RelV (o.getD d) (u.getD d'):=by
 cases o with
 |none=>cases u with
  |none=>exact rd
  |some _=>exact(show False from r).elim
 |some _=>cases u with
  |none=>exact(show False from r).elim
  |some _=>exact r
theorem KV.val{kvs:List (κ×V)}{vs:List (κ×Value)}(r:KV kvs vs)(k:κ):mF (iD kvs k) (valueAt vs k):=by
 unfold KV at r;induction r with
 |nil=>exact True.intro
 |@cons p q ps qs h t ih=>
  obtain⟨h1,h2⟩:=h;by_cases e:p.1=k
  ·have e':q.1=k:=h1.symm.trans e;have b:valueAt (q::qs) k=some q.2:=by simp[valueAt,Zb0,e']
   rw[mJ e,b];exact h2
  ·have e':¬q.1=k:=λz=>e (h1.trans z);have b:valueAt (q::qs) k=valueAt qs k:=by simp[valueAt,Zb0,e']
   rw[jf e,b];exact ih
theorem KV.any{kvs:List (κ×V)}{vs:List (κ×Value)}(r:KV kvs vs)(k:κ):(kvs.any λkv=>decide (kv.1=k))=vs.any λkv=>decide (kv.1=k):=by
 unfold KV at r;induction r with
 |nil=>rfl
 |cons h t ih=>rw[Zb1,Zb1,ih,h.1]
theorem KV.repl{kvs:List (κ×V)}{vs:List (κ×Value)}(r:KV kvs vs)(k:κ){y:V}{u:Value}(ry:RelV y u) :
  KV (kvs.map λkv=>if kv.1=k then(kv.1,y) else kv) (vs.map λkv=>if kv.1=k then(kv.1,u) else kv):=by
 unfold KV at r ⊢;induction r with
 |nil=>exact .nil
 |@cons p q ps qs h t ih=>
  rw[Zan,Zan];refine .cons ?_ ih;obtain⟨h1,h2⟩:=h;by_cases e:p.1=k
  ·rw[Zag e,Zag (h1.symm.trans e)];exact⟨h1,ry⟩
  ·rw[Zae e,Zae (λz=>e (h1.trans z))];exact⟨h1,h2⟩
theorem KV.put{kvs:List (κ×V)}{vs:List (κ×Value)}(r:KV kvs vs)(k:κ){y:V}{u:Value}(ry:RelV y u):KV (putK kvs k y) (stored vs k u):=by
 unfold putK stored;rw[r.any k];by_cases e:(vs.any λkv=>decide (kv.1=k))=true
 ·rw[Zag e,Zag e];exact r.repl k ry
 ·rw[Zae e,Zae e];exact Paired.snoc r ⟨rfl,ry⟩
theorem KV.length{kvs:List (κ×V)}{vs:List (κ×Value)}(r:KV kvs vs):kvs.length=vs.length:=Paired.length r
end
theorem vz{P:Program}{w:World}{k:Key}{u:Value}(r:RelV (kV k) u):(cG P w).is k u=true:=by
 cases k with
 |inl i=>obtain⟨t,e⟩:=(show ∃ t,u=Value.int i t from r);subst e;exact Cv P w i t
 |inr x=>obtain⟨t,e⟩:=(show ∃ t,u=Value.str x t from r);subst e;exact Cw P w x t
theorem yJ{P:Program}{w:World}:∀ {ks:List Key}{us:List Value},Vals (ks.map kV) us->ItemsAre (cG P w) ks us
 |[],_,r=>by rw[List.map_nil] at r;cases r;exact .nil
 |k::ks,_,r=>by
  rw[Zan] at r;cases r with
  |cons h t=>exact .cons (vz h) (yJ t)
noncomputable abbrev KT(H:Hp):List (List Key×V)->List (List Key×Addr×Value)->Prop:=Paired λp q=>p.1=q.1/\H q.2.1=some (.tup (p.1.map kV))/\RelV p.2 q.2.2
theorem KT.val{H:Hp}{kvs:List (List Key×V)}{xs:List (List Key×Addr×Value)}(r:KT H kvs xs)(k:List Key):mF (iD kvs k) ((atKey xs k).map (·.2)):=by
 induction r with
 |nil=>exact True.intro
 |@cons p q ps qs h t ih=>
  obtain⟨h1,_,h2⟩:=h;by_cases e:p.1=k
  ·have e':q.1=k:=h1.symm.trans e;have b:atKey (q::qs) k=some q.2:=by simp[atKey,Zb0,e']
   rw[mJ e,b];exact h2
  ·have e':¬q.1=k:=λz=>e (h1.trans z);have b:atKey (q::qs) k=atKey qs k:=by simp[atKey,Zb0,e']
   rw[jf e,b];exact ih
theorem KT.repl{H:Hp}{kvs:List (List Key×V)}{xs:List (List Key×Addr×Value)}(r:KT H kvs xs)(k:List Key){y:V}{u:Value}(ry:RelV y u) :
  KT H (kvs.map λkv=>if kv.1=k then(kv.1,y) else kv) (xs.map (putAt k u)):=by
 induction r with
 |nil=>exact .nil
 |@cons p q ps qs h t ih=>
  rw[Zan,Zan];refine .cons ?_ ih;obtain⟨h1,h2,h3⟩:=h;unfold putAt;by_cases e:p.1=k
  ·rw[Zag e,Zag (h1.symm.trans e)];exact⟨h1,h2,ry⟩
  ·rw[Zae e,Zae (λz=>e (h1.trans z))];exact⟨h1,h2,h3⟩
theorem KT.put{H:Hp}{kvs:List (List Key×V)}{xs:List (List Key×Addr×Value)}(r:KT H kvs xs)(k:List Key){b:Addr}{y:V}{u:Value}(hb:H b=some (.tup (k.map kV)))(ry:RelV y u) :
  KT H (putK kvs k y) (storedH xs k b u):=by
 have e:(kvs.any λkv=>decide (kv.1=k))=(atKey xs k).isSome:=by
  rw[vy,(r.val k).jZ,Option.isSome_map]
 unfold putK storedH;rw[e];by_cases q:(atKey xs k).isSome=true
 ·rw[Zag q,Zag q];exact r.repl k ry
 ·rw[Zae q,Zae q];exact Paired.snoc r ⟨rfl,hb,ry⟩
theorem KT.keeps{H H':Hp}{kvs:List (List Key×V)}{xs:List (List Key×Addr×Value)}(r:KT H kvs xs)(ht:∀ b ys,H b=some (.tup ys)->H' b=some (.tup ys)):KT H' kvs xs:=
 Paired.Uk r λ_ _ z=>⟨z.1,ht _ _ z.2.1,z.2.2⟩
section
variable{P:Program}{w:World}{H:Hp}{h:Heap}{a:Addr}
theorem Tj{u:HO}(ok:HOk P w H h)(e:Rd H a u):cF P w H h a u:=e.ok ok
theorem vA{kvs:List (Key×V)}(ok:HOk P w H h)(e:Rd H a (.dK kvs)):kvs.length<=sizeLine/\(a==sysModules)=false/\∃ vs,KV kvs vs/\h.DictOf (cG P w) a vs:=
 show cF P w H h a (.dK kvs) from Tj ok e
theorem Tn{kvs:List (Key×V)}(ok:HOk P w H h)(e:H a=some (.dK kvs)):kvs.length<=sizeLine/\(a==sysModules)=false/\∃ vs,KV kvs vs/\h.DictOf (cG P w) a vs:=vA ok (.inl e)
theorem mK{ks:List Key}(ok:HOk P w H h)(e:H a=some (.tup (ks.map kV))):(tupleKind (cG P w)).is h ks a:=by
 obtain⟨_,its,r,⟨o,h1,h2,n,h3⟩,_⟩:=(show cF P w H h a (.tup (ks.map kV)) from ok a _ e);exact⟨o,its.toArray,n,h1,h2,h3,by simpa using yJ r⟩
theorem tZ{kvs:List (List Key×V)}(ok:HOk P w H h)(e:Rd H a (.dT kvs)):kvs.length<=sizeLine/\(a==sysModules)=false /\
  ∃ xs,KT H kvs xs/\h.DictOfH (tupleKind (cG P w)) a xs:=by
 obtain⟨z,y,xs,r,o,es,ep,h1,h2,h3,h4,h5⟩:=(show cF P w H h a (.dT kvs) from Tj ok e);refine⟨z,y,xs,r,o,es,ep,h1,h2,h3,h4,λx hx=>?_,h5⟩;have all:∀ {l:List (List Key×V)}{m:List (List Key×Addr×Value)},KT H l m->∀ x∈m,(tupleKind (cG P w)).is h x.1 x.2.1:=by
  intro l m q;induction q with
  |nil=>intro x hx;exact nomatch hx
  |@cons p q ps qs hq t ih=>
   intro x hx;rcases Zaw.mp hx with e|hx
   ·subst e;exact mK ok (by rw[<-hq.1];exact hq.2.1)
   ·exact ih x hx
 exact all r x hx
theorem Mt{kvs:List (List Key×V)}(ok:HOk P w H h)(e:H a=some (.dT kvs)):kvs.length<=sizeLine/\(a==sysModules)=false /\
  ∃ xs,KT H kvs xs/\h.DictOfH (tupleKind (cG P w)) a xs:=tZ ok (.inl e)
end
def qF(H:Hp)(a:Addr)(y:V)(r:Option V):Prop:=
 (∃ kvs k,Rd H a (.dK kvs)/\y=kV k/\r=iD kvs k)\/∃ kvs k b,Rd H a (.dT kvs)/\y=.ref b/\H b=some (.tup (k.map kV))/\r=iD kvs k
def qG(H:Hp)(a:Addr)(y v:V)(H':Hp):Prop:=
 (∃ kvs k,H a=some (.dK kvs)/\y=kV k/\kvs.length<sizeLine/\H'=upd H a (.dK (putK kvs k v))) \/
 ∃ kvs k b,H a=some (.dT kvs)/\y=.ref b/\H b=some (.tup (k.map kV))/\kvs.length<sizeLine/\H'=upd H a (.dT (putK kvs k v))
theorem qG.k{H:Hp}{a:Addr}{kvs:List (Key×V)}{k:Key}{v:V}(e:H a=some (.dK kvs))(hl:kvs.length<sizeLine):qG H a (kV k) v (upd H a (.dK (putK kvs k v))):=.inl ⟨kvs,k,e,rfl,hl,rfl⟩
theorem qG.t{H:Hp}{a b:Addr}{kvs:List (List Key×V)}{k:List Key}{v:V}(e:H a=some (.dT kvs))(eb:H b=some (.tup (k.map kV)))(hl:kvs.length<sizeLine) :
  qG H a (.ref b) v (upd H a (.dT (putK kvs k v))):=.inr ⟨kvs,k,b,e,rfl,eb,hl,rfl⟩
section
variable{X:Cx}{pins:List (Addr×Obj)}{σ:St}{H:Hp}{s:Shared}{a:Addr}{y v:V}{u r:Value}{o:Option V}{A:Around}{E:Value->Shared->Prop}
theorem Inv.big(I:Inv X pins σ H s):sysModules<s.heap.objs.size:=by
 have h:mainGlobals<s.heap.objs.size:=(I.mod.glob.keeps I.bk).lt;exact Nat.lt_trans (by decide) h
theorem Kh{Q:Value->Shared->Prop}(hu:A.units+1<cLine)(I:Inv X pins σ H s)(g:qF H a y (some v))(ry:RelV y u)(h:∀ w' s',Inv X pins σ H s'->RelV v w'->Q w' s') :
  wpAny (model X.prog X.w) A (getItem (.ref a) u) Q E s:=by
 rcases g with⟨kvs,k,e,ey,l⟩|⟨kvs,k,b,e,ey,eb,l⟩
 ·subst ey;obtain⟨z,hd,vs,rel,dd⟩:=vA I.hok e;obtain⟨w',hw,rw'⟩:=mF.some_of (v:=v) (o:=valueAt vs k) (by rw[l];exact rel.val k)
  exact wpAny_getItem_of (vz ry) dd.mapOf hw (h w' _ (I.tok _) rw')
 ·subst ey;cases (show u=Value.ref b from ry);obtain⟨z,hd,xs,rel,dd⟩:=tZ I.hok e;obtain⟨w',hw,rw'⟩:=mF.some_of (v:=v) (o:=(atKey xs k).map (·.2)) (by rw[l];exact rel.val k)
  obtain⟨p,hp,hp2⟩:=Zbi.mp hw;refine wpAny_getItem_heap (tupleKind_room_in1 hu) (mK I.hok eb) dd hp ?_;rw[hp2];exact h w' _ (I.tok _) rw'
theorem X7{Q:Value->Shared->Prop}(hu:A.units+1<cLine)(I:Inv X pins σ H s)(g:qF H a y o)(ry:RelV y u)(h:∀ s',Inv X pins σ H s'->Q (.bool o.isSome) s') :
  wpAny (model X.prog X.w) A (compareOp .In u (.ref a)) Q E s:=by
 rcases g with⟨kvs,k,e,ey,l⟩|⟨kvs,k,b,e,ey,eb,l⟩
 ·subst ey;obtain⟨z,hd,vs,rel,dd⟩:=vA I.hok e;refine wpAny_in_of (vz ry) hd dd.mapOf ?_;rw[<-(rel.val k).jZ,<-l];exact h _ (I.tok _)
 ·subst ey;cases (show u=Value.ref b from ry);obtain⟨z,hd,xs,rel,dd⟩:=tZ I.hok e;refine wpAny_in_heap (tupleKind_room_in1 hu) (mK I.hok eb) hd dd ?_;have q:=(rel.val k).jZ;rw[Option.isSome_map] at q;rw[<-q,<-l];exact h _ (I.tok _)
theorem QQ{Q:Value->Shared->Prop}(hu:A.units+1<cLine)(I:Inv X pins σ H s)(g:qF H a y o)(ry:RelV y u)(h:∀ s',Inv X pins σ H s'->Q (.bool (!o.isSome)) s') :
  wpAny (model X.prog X.w) A (compareOp .NotIn u (.ref a)) Q E s:=by
 rcases g with⟨kvs,k,e,ey,l⟩|⟨kvs,k,b,e,ey,eb,l⟩
 ·subst ey;obtain⟨z,hd,vs,rel,dd⟩:=vA I.hok e;refine wpAny_notIn_of (vz ry) hd dd.mapOf ?_;rw[<-(rel.val k).jZ,<-l];exact h _ (I.tok _)
 ·subst ey;cases (show u=Value.ref b from ry);obtain⟨z,hd,xs,rel,dd⟩:=tZ I.hok e;refine wpAny_notIn_heap (tupleKind_room_in1 hu) (mK I.hok eb) hd dd ?_;have q:=(rel.val k).jZ;rw[Option.isSome_map] at q;rw[<-q,<-l];exact h _ (I.tok _)
theorem qH{h':Heap}{t':Nat}{ob:HO}(I:Inv X pins σ H s)(mu:Mut (H a))(hs:Heap.SameBut a s.heap h')(he:∃ q,h'.get? a=some q)(new:cF X.prog X.w (upd H a ob) h' a ob) :
  Inv X pins σ (upd H a ob) { s with heap:=h',toks:=t' }:=
 I.write (x:=a) (e:=a) mu (.inl rfl) (λb q hb z=>(hs.2 b hb).trans z) he new
theorem Mu{P:Program}{w:World}{H':Hp}{h':Heap}{kvs:List (Key×V)}{vs:List (Key×Value)}(z:kvs.length<=sizeLine)(hd:(a==sysModules)=false)(rel:KV kvs vs)(dd:h'.DictOf (cG P w) a vs) :
  cF P w H' h' a (.dK kvs):=⟨z,hd,vs,rel,dd⟩
theorem Kl{H':Hp}{Q:Unit->Shared->Prop}(hu:A.units+1<cLine)(I:Inv X pins σ H s)(g:qG H a y v H')(ry:RelV y u)(rv:RelV v r)(h:∀ s',Inv X pins σ H' s'->Q () s') :
  wpAny (model X.prog X.w) A (setItem (.ref a) u r) Q E s:=by
 rcases g with⟨kvs,k,e,ey,l,eH⟩|⟨kvs,k,b,e,ey,eb,l,eH⟩
 ·subst ey eH;obtain⟨z,hd,vs,rel,dd⟩:=Tn I.hok e;have hz:vs.length<=sizeLine:=by rw[<-rel.length];exact z
  have hl:(putK kvs k v).length<=sizeLine:=by have:=gY kvs k v;lia
  refine wpAny_setItem_pairs (hsz:=hz) (vz ry) dd λh' dd' hs=>h _ ?_;have he:∃ q,h'.get? a=some q:=let⟨q,_,_,hq,_⟩:=dd';⟨q,hq⟩;exact qH I (by rw[e];exact True.intro) hs he (Mu hl hd (rel.put k rv) dd')
 ·subst ey eH;cases (show u=Value.ref b from ry);obtain⟨z,hd,xs,rel,dd⟩:=Mt I.hok e;have hz:xs.length<=sizeLine:=by rw[<-Paired.length rel];exact z
  have hl:(putK kvs k v).length<=sizeLine:=by have:=gY kvs k v;lia
  refine wpAny_setItem_heap (hsz:=hz) (tupleKind_room_in1 hu) (mK I.hok eb) dd λh' dd' hs=>h _ ?_;obtain⟨q,es,ep,hq,h2,h3,h4,_,h5⟩:=dd';refine qH I (by rw[e];exact True.intro) hs ⟨q,hq⟩ ⟨hl,hd,_,(rel.put k eb rv).keeps λc ys ec=>?_,q,es,ep,hq,h2,h3,h4,h5⟩
  rw[aq (Lz ec e (λz=>nomatch z))];exact ec
end
def UV(i:Expr):Prop:=∀ ov iv,subscripted i false ov iv=operate [ov,iv] (getItem ov iv)
theorem QR{prog:Program}{w:World}{A:Around}{E:Value->Shared->Prop}{s:Shared}{env:Env}{value slice:Expr}{pos:Pos}{T id:String}{Q:Value->Shared->Prop}
  (hl:typeLookup (.type T) "__getitem__"=pure (some (.builtin id)))(hs:UV slice)
  (h:wpAny (model prog w) A (eval value env) (λo s₁=>wpAny (model prog w) A (eval slice env) (λi s₂=>s₂.TypeIs o T/\wpAny (model prog w) A (getItem o i) Q E s₂) E s₁) E s) :
  wpAny (model prog w) A (eval (.Subscript value slice pos) env) Q E s:=by
 refine Subscript_ (Za8 h (λo s₁ h₁=>Za8 h₁ (λi s₂ h₂=>?_) λ_ _ x=>x) λ_ _ x=>x);obtain⟨hT,h₂⟩:=h₂;unfold subscriptTail;refine Zaa ?_;rw[getitemInPython_of_ne hT.not_modules];refine Zaa (wpAny_specialOf hT hl ?_);have fin:wpAny (model prog w) A (subscripted slice false o i) (λr s₃=>wpAny (model prog w) A (letTemporaryGo value o r>>=λ_=>pure r) Q E s₃) E s₂:=by
  rw[hs o i];exact wpAny_operating (Za8 h₂ (λr s₃ h₃=>Zaa (wpAny_letTemporaryGo (Zaf h₃))) λ_ _ x=>x)
 first
  |exact Zaf (Zaa fin)
  |exact Zaa (Zaf (Zaa fin))
  |exact Zaa fin
theorem De{X:Cx}{pins:List (Addr×Obj)}{σ:St}{H:Hp}{s:Shared}{a:Addr}{y:V}{o:Option V}(I:Inv X pins σ H s)(g:qF H a y o):s.TypeIs (.ref a) "dict":=by
 rcases g with⟨kvs,k,e,_,_⟩|⟨kvs,k,b,e,_,_,_⟩
 ·obtain⟨_,_,vs,_,dd⟩:=vA I.hok e;exact dd.typeIs
 ·obtain⟨_,_,xs,_,dd⟩:=tZ I.hok e;exact dd.typeIs
def Mv(td ty:TE):TE:=λσ H Q=>td σ H λx H1=>ty σ H1 λy H2=>∃ a v,x=.ref a/\qF H2 a y (some v)/\Q v H2
def Mw(td ty tv:TE):TS:=λD σ H=>tv σ H λv H1=>td σ H1 λx H2=>ty σ H2 λy H3=>∃ a H4,x=.ref a/\qG H3 a y v H4/\D.nx σ H4
section
variable{X:Cx}{o i value:Expr}{pos pos':Pos}{td ty tv:TE}
theorem QT(hu:X.A.units+1<cLine)(ho:PE X o td)(hi:PE X i ty)(hs:UV i):PE X (.Subscript o i pos) (Mv td ty):=by
 intro pins s σ H Q I h;refine QR PySem.F.slot_dict_getitem.lookup hs (thn (ho pins s σ H _ I h) λu s1 ⟨x,H1,I1,rx,q1⟩=>thn (hi pins s1 σ H1 _ I1 q1) ?_);rintro iv s2 ⟨y,H2,I2,ry,a,v,ex,g,q2⟩;subst ex;obtain rfl:u=Value.ref a:=rx;exact⟨De I2 g,Kh hu I2 g ry λw' s3 I3 rw'=>⟨v,H2,I3,rw',q2⟩⟩
theorem uE(hu:X.A.units+1<cLine)(ho:PE X o td)(hi:PE X i ty)(hv:PE X value tv)(hs:swapsWith value (some (.Subscript o i pos')) pos.line X.env=pure false) :
  PS X (.Assign [.Subscript o i pos'] value pos) (Mw td ty tv):=by
 intro pins s σ H D I h;refine wpAny_Assign_Subscript (thn (hv pins s σ H _ I h) λr s1 ⟨v,H1,I1,rv,q1⟩=>thn (ho pins s1 σ H1 _ I1 q1) λu s2 ⟨x,H2,I2,rx,q2⟩=>thn (hi pins s2 σ H2 _ I2 q2) ?_) hs;rintro iv s3 ⟨y,H3,I3,ry,a,H4,ex,g,q3⟩;subst ex;obtain rfl:u=Value.ref a:=rx;exact Kl hu I3 g ry rv λs4 I4=>⟨σ,H4,I4,q3⟩
end
theorem Mx{P:Program}{w:World}{H:Hp}(h:Heap)(hb:sysModules<h.objs.size):cF P w H (h.push { cls:=.type "dict",data:=.dict #[] }) h.objs.size (.dK []):=
 ⟨Zbb _,beq_eq_false_iff_ne.mpr (ZaX (ZaD hb)),[],.nil,Heap.DictOf.new h⟩
theorem Df{P:Program}{w:World}{H:Hp}(h:Heap)(hb:sysModules<h.objs.size):cF P w H (h.push { cls:=.type "dict",data:=.dict #[] }) h.objs.size (.dT []):=
 ⟨Zbb _,beq_eq_false_iff_ne.mpr (ZaX (ZaD hb)),[],.nil,_,#[],0,Zar _ rfl,⟨rfl,rfl,rfl⟩,rfl,rfl,List.nodup_nil⟩
def My:TE:=λ_ H Q=>∀ p,H p=none->Q (.ref p) (upd H p (.dT []))
section
variable{X:Cx}{pos:Pos}
theorem mL:PE X (.Dict [] [] pos) My:=λpins s σ H Q I h=>
 wpAny_Dict_empty ⟨.ref s.heap.objs.size,_,I.laid (a:=s.heap.objs.size) (o:=.dT []) (t':=s.toks) (λ_ _ q=>Zad _ q) (Zai _) (Df s.heap I.big),rfl,h _ (I.hok.fresh (Zai _))⟩
end
def Mz:List (TE×TE)->St->Hp->(List (V×V)->Hp->Prop)->Prop
 |[],_,H,Q=>Q [] H
 |(tk,tv)::r,σ,H,Q=>tk σ H λx H1=>tv σ H1 λy H2=>Mz r σ H2 λps H3=>Q ((x,y)::ps) H3
noncomputable abbrev VV:List (V×V)->List (Value×Value)->Prop:=Paired λp q=>RelV p.1 q.1/\RelV p.2 q.2
def PPs(X:Cx)(pos:Pos)(keys:List (Option Expr))(values:List Expr)(trs:List (TE×TE)):Prop:=
 ∀ (pins:List (Addr×Obj)) (s:Shared) (σ:St) (H:Hp) (Q:List (V×V)->Hp->Prop),Inv X pins σ H s->Mz trs σ H Q ->
  wpAny (model X.prog X.w) X.A (evalPairs (pairTrees keys values X.env pos)) (λvs s'=>∃ ps H',Inv X pins σ H' s'/\VV ps vs/\Q ps H') X.xe s
structure M1(X:Cx)(o:Expr)(m:Str)(apos:Pos)(e:Expr)(cpos:Pos):Prop where
 base:attributeBase o m X.env (eval o X.env)=eval o X.env
 few:((backTo cpos (starEach [e] X.env)).all (λx=>!x.1)&&(backToKw cpos (keywordEach [] X.env)).all (λx=>x.1.isSome)
  && decide (([e]:List Expr).length+([]:List Keyword).length+(if([]:List Keyword).isEmpty then 0 else 1)<30))=true
 line:(apos.endLine==cpos.line)=true
 trees:backTo cpos (starEach [e] X.env)=[(false,eval e X.env)]
structure M2(X:Cx)(o:Expr)(m:Str)(apos:Pos)(e f:Expr)(cpos:Pos):Prop where
 base:attributeBase o m X.env (eval o X.env)=eval o X.env
 few:((backTo cpos (starEach [e,f] X.env)).all (λx=>!x.1)&&(backToKw cpos (keywordEach [] X.env)).all (λx=>x.1.isSome)
  && decide (([e,f]:List Expr).length+([]:List Keyword).length+(if([]:List Keyword).isEmpty then 0 else 1)<30))=true
 line:(apos.endLine==cpos.line)=true
 trees:backTo cpos (starEach [e,f] X.env)=[(false,eval e X.env),(false,eval f X.env)]
def IsD(H:Hp)(a:Addr):Prop:=(∃ kvs,Rd H a (.dK kvs))\/∃ kvs,Rd H a (.dT kvs)
theorem GJ{X:Cx}{pins:List (Addr×Obj)}{σ:St}{H:Hp}{s:Shared}{a:Addr}(I:Inv X pins σ H s)(d:IsD H a) :
  s.TypeIs (.ref a) "dict"/\(∀ b,Value.ref a=.ref b->∃ ob,s.heap.get? b=some ob/\ob.dict=none)/\(a==sysModules)=false:=by
 rcases d with⟨kvs,e⟩|⟨kvs,e⟩
 ·obtain⟨_,hd,vs,_,dd⟩:=vA I.hok e;refine⟨dd.typeIs,λb q=>?_,hd⟩;cases q;obtain⟨ob,_,_,h1,h2,_⟩:=dd;exact⟨ob,h1,h2.2.1⟩
 ·obtain⟨_,hd,xs,_,dd⟩:=tZ I.hok e;refine⟨dd.typeIs,λb q=>?_,hd⟩;cases q;obtain⟨ob,_,_,h1,h2,_⟩:=dd;exact⟨ob,h1,h2.2.1⟩
section
variable{X:Cx}{pins:List (Addr×Obj)}{σ:St}{H:Hp}{s:Shared}{a:Addr}{y:V}{u:Value}{o:Option V}{A:Around}{E:Value->Shared->Prop}
theorem UW{Q:Value->Shared->Prop}(hu:A.units+1<cLine)(I:Inv X pins σ H s)(g:qF H a y o)(ry:RelV y u)(h:∀ w' s',Inv X pins σ H s'->RelV (o.getD .non) w'->Q w' s') :
  wpAny (model X.prog X.w) A (call (.builtin "dict.get") [.ref a,u]) Q E s:=by
 rcases g with⟨kvs,k,e,ey,l⟩|⟨kvs,k,b,e,ey,eb,l⟩
 ·subst ey;obtain⟨z,hd,vs,rel,dd⟩:=vA I.hok e;refine call_meetsIn PySem.F.slot_dict_get dd.typeIs PySem.F.entry_dict_get (PySem.F.args_dict_get_2 _ _) (meets_dict_get (cG X.prog X.w) a (vz ry) hd) ⟨_,dd.mapOf,h _ _ (I.tok _) ?_⟩;rw[l];exact(rel.val k).getD rfl
 ·subst ey;cases (show u=Value.ref b from ry);obtain⟨z,hd,xs,rel,dd⟩:=tZ I.hok e;refine call_meetsIn PySem.F.slot_dict_get dd.typeIs PySem.F.entry_dict_get (PySem.F.args_dict_get_2 _ _) (meetsH_dict_get (tupleKind (cG X.prog X.w)) a b hd) ⟨tupleKind_room_in1 hu,k,xs,mK I.hok eb,dd,h _ _ (I.tok _) ?_⟩;rw[l];exact(rel.val k).getD rfl
end
def GK(td ty:TE):TE:=λσ H Q=>td σ H λx H1=>∃ a,x=.ref a/\IsD H1 a/\ty σ H1 λy H2=>∃ o,qF H2 a y o/\Q (o.getD .non) H2
section
variable{X:Cx}{o e:Expr}{apos cpos:Pos}{td ty:TE}
theorem MF(hu:X.A.units+1<cLine)(ho:PE X o td)(he:PE X e ty)(m:M1 X o "get" apos e cpos):PE X (.Call (.Attribute o "get" apos) [e] [] cpos) (GK td ty):=by
 intro pins s σ H Q I h;refine wpAny_Call_method m.base m.few m.line PySem.F.plainAttrs_dict PySem.F.slot_dict_get PySem.F.type_dict_get (thn (ho pins s σ H _ I h) ?_);rintro u s1 ⟨x,H1,I1,rx,a,ex,d,q1⟩;subst ex;obtain rfl:u=Value.ref a:=rx;obtain⟨t1,t2,_⟩:=GJ I1 d;refine⟨t1,t2,?_⟩;rw[m.trees];refine Calls.callWith_builtin rfl (Calls.evalArgs_plain (Calls.spliced_cons (thn (he pins s1 σ H1 _ I1 q1) λiv s2 ⟨y,H2,I2,ry,ov,g,q2⟩=>Calls.spliced_nil ?_)));exact UW hu I2 g ry λw' s3 I3 rw'=>⟨_,H2,I3,rw',q2⟩
end
end L2
namespace L2.MP
open PySem PySem.Spec PyProof.Rows
inductive PV where
 |non|bl (b:Bool)|int (i:Int)|str (x:Str)|ty (n:String)
 |tup (l:List PV)|lst (l:List PV)|dk (l:List (Key×PV))|dt (l:List (List Key×PV))
 |exc (c:Str) (fs:List (Str×PV))
noncomputable instance:Inhabited PV:=⟨.non⟩
def PV.flat:PV->Bool
 |.non|.bl _|.int _|.str _|.ty _=>true
 |_=>false
def pL:Nat->PV->Bool
 |0,p=>p.flat
 |n+1,.tup l=>l.all (pL n)
 |_+1,p=>p.flat
def PV.still(p:PV):Bool:=pL 5 p
inductive Res(α:Type) where
 |ok (a:α)|ex (z:PV)
def bnd{α β:Type}(x:Option (Res α))(k:α->Option (Res β)):Option (Res β):=match x with
 |some (.ok a)=>k a
 |some (.ex z)=>some (.ex z)
 |none=>none
def XO(e C:Addr)(d:Option Addr):HO:=.ext λh=>∃ vs:Array Value,h.get? e=some { cls:=.ref C,dict:=d,data:=.fields vs }
structure XNm(K:PySem.W.Frag)(C:Addr)(c:Str):Prop where
 ns:nsIn K mainGlobals c=some (some (.ref C))
 cl:∃ cd,PySem.W.clsIn K C=some cd/\cd.name=c
inductive Rep(K:PySem.W.Frag)(F:Hp):V->PV->Prop
 |non:Rep K F .non .non
 |bl {b:Bool}:Rep K F (.bl b) (.bl b)
 |int {i:Int}:Rep K F (.int i) (.int i)
 |str {x:Str}:Rep K F (.str x) (.str x)
 |ty {n:String}:Rep K F (.ty n) (.ty n)
 |tup {a:Addr}{xs:List V}{l:List PV} (h:F a=some (.tup xs)) (hl:xs.length=l.length) (hr:∀ (j:Nat) x p,xs[j]?=some x->l[j]?=some p->Rep K F x p):Rep K F (.ref a) (.tup l)
 |lst {a:Addr}{xs:List V}{l:List PV} (h:SqL K F a xs) (hl:xs.length=l.length) (hr:∀ (j:Nat) x p,xs[j]?=some x->l[j]?=some p->Rep K F x p):Rep K F (.ref a) (.lst l)
 |dk {a:Addr}{xs:List (Key×V)}{l:List (Key×PV)} (h:Rd F a (.dK xs)) (hl:xs.map (·.1)=l.map (·.1)) (hr:∀ (j:Nat) x p,xs[j]?=some x->l[j]?=some p->Rep K F x.2 p.2):Rep K F (.ref a) (.dk l)
 |dt {a:Addr}{xs:List (List Key×V)}{l:List (List Key×PV)} (h:Rd F a (.dT xs)) (hl:xs.map (·.1)=l.map (·.1)) (hr:∀ (j:Nat) x p,xs[j]?=some x->l[j]?=some p->Rep K F x.2 p.2):Rep K F (.ref a) (.dt l)
 |exc {a C dx:Addr}{c:Str}{xs:List (Str×V)}{l:List (Str×PV)} (nm:XNm K C c) (h:F a=some (XO a C (some dx))) (hd:F dx=some (.xd xs)) (hl:xs.map (·.1)=l.map (·.1)) (hr:∀ (j:Nat) x p,xs[j]?=some x->l[j]?=some p->Rep K F x.2 p.2):Rep K F (.ref a) (.exc c l)
 |exc0 {a C:Addr}{c:Str} (nm:XNm K C c) (h:F a=some (XO a C none)):Rep K F (.ref a) (.exc c [])
def bh(K:PySem.W.Frag)(F:Hp)(xs:List V)(l:List PV):Prop:=xs.length=l.length/\∀ (j:Nat) x p,xs[j]?=some x->l[j]?=some p->Rep K F x p
section
variable{K:PySem.W.Frag}{F F':Hp}{v:V}{p:PV}{xs ys:List V}{l m:List PV}
theorem _root_.L2.Rd.same{F F':Hp}{a:Addr}{u:HO}(h:Rd F a u)(s:aP F F'):Rd F' a u:=h.imp (s _ _) λ⟨o,e⟩=>⟨o,s _ _ e⟩
theorem Rep.up(h:Rep K F v p)(s:aP F F'):Rep K F' v p:=by
 induction h with
 |non=>exact .non
 |bl=>exact .bl
 |int=>exact .int
 |str=>exact .str
 |ty=>exact .ty
 |tup h hl _ ih=>exact .tup (s _ _ h) hl ih
 |lst h hl _ ih=>exact .lst (s.seq h) hl ih
 |dk h hl _ ih=>exact .dk (h.same s) hl ih
 |dt h hl _ ih=>exact .dt (h.same s) hl ih
 |exc nm h hd hl _ ih=>exact .exc nm (s _ _ h) (s _ _ hd) hl ih
 |exc0 nm h=>exact .exc0 nm (s _ _ h)
theorem bh.up(h:bh K F xs l)(s:aP F F'):bh K F' xs l:=⟨h.1,λj x p a b=>(h.2 j x p a b).up s⟩
theorem Rep.free(h:Rep K F v p)(hf:p.flat=true):Rep K F' v p:=by
 cases h with
 |non=>exact .non
 |bl=>exact .bl
 |int=>exact .int
 |str=>exact .str
 |ty=>exact .ty
 |tup=>cases hf
 |lst=>cases hf
 |dk=>cases hf
 |dt=>cases hf
 |exc=>cases hf
 |exc0=>cases hf
theorem bh.nil:bh K F [] []:=⟨rfl,λj x p h=>by simp at h⟩
theorem bh.cons(h:Rep K F v p)(t:bh K F xs l):bh K F (v::xs) (p::l):=by
 refine⟨by simp[t.1],λj x q a b=>?_⟩
 cases j with
 |zero=>simp at a b;subst a b;exact h
 |succ j=>exact t.2 j x q (by simpa using a) (by simpa using b)
theorem bh.append(h:bh K F xs l)(t:bh K F ys m):bh K F (xs++ys) (l++m):=by
 refine⟨by rw[List.length_append,List.length_append,h.1,t.1],λj x p a b=>?_⟩
 by_cases hj:j<xs.length
 ·rw[Zaj hj] at a;rw[Zaj (by rw[<-h.1];exact hj)] at b
  exact h.2 j x p a b
 ·rw[Zau (by lia)] at a
  rw[Zau (by rw[<-h.1];lia),<-h.1] at b
  exact t.2 _ x p a b
theorem bh.snoc(h:bh K F xs l)(t:Rep K F v p):bh K F (xs++[v]) (l++[p]):=h.append (bh.nil.cons t)
theorem bh.get(h:bh K F xs l){j:Nat}(e:l[j]?=some p):∃ x,xs[j]?=some x/\Rep K F x p:=by
 have hj:j<xs.length:=by rw[h.1];exact(Zac.mp e).1
 exact⟨xs[j],by simp[hj],h.2 j _ p (by simp[hj]) e⟩
theorem bh.got(h:bh K F xs l){j:Nat}(e:xs[j]?=some v):∃ p,l[j]?=some p/\Rep K F v p:=by
 have hj:j<l.length:=by rw[<-h.1];exact(Zac.mp e).1
 exact⟨l[j],by simp[hj],h.2 j v _ e (by simp[hj])⟩
theorem bh.take(h:bh K F xs l)(n:Nat):bh K F (xs.take n) (l.take n):=by
 refine⟨by simp[h.1],λj x p a b=>?_⟩
 rw[List.getElem?_take] at a b;split at a
 ·rename_i hj;rw[Zag hj] at b;exact h.2 j x p a b
 ·cases a
theorem bh.drop(h:bh K F xs l)(n:Nat):bh K F (xs.drop n) (l.drop n):=by
 refine⟨by simp[h.1],λj x p a b=>?_⟩
 rw[List.getElem?_drop] at a b;exact h.2 _ x p a b
theorem bh.cV(h:bh K F xs (p::l)):∃ v ys,xs=v::ys/\Rep K F v p/\bh K F ys l:=by
 obtain⟨hl,hr⟩:=h
 match xs,hl,hr with
 |[],hl,_=>simp at hl
 |v::ys,hl,hr=>exact⟨v,ys,rfl,hr 0 v p rfl rfl,by simpa using hl,λj x q a b=>hr (j+1) x q (by simpa using a) (by simpa using b)⟩
theorem bh.gQ(h:bh K F xs []):xs=[]:=by
 have:=h.1;simpa using this
theorem bh.Ad:∀ (ns:List Int),bh K F (ns.map V.int) (ns.map PV.int)
 |[]=>.nil
 |n::ns=>(bh.Ad ns).cons .int
theorem Rep.aY{i:Int}(h:Rep K F v (.int i)):v=.int i:=by cases h;rfl
theorem Rep.mO{b:Bool}(h:Rep K F v (.bl b)):v=.bl b:=by cases h;rfl
theorem Rep.bN{z:Str}(h:Rep K F v (.str z)):v=.str z:=by cases h;rfl
theorem Rep.dH(h:Rep K F v .non):v=.non:=by cases h;rfl
theorem Rep.U0{n:String}(h:Rep K F v (.ty n)):v=.ty n:=by cases h;rfl
theorem Rep.cN(h:Rep K F v (.tup l)):∃ a xs,v=.ref a/\SqT K F a xs/\bh K F xs l:=by cases h with|tup h hl hr=>exact⟨_,_,rfl,SqT.of h,hl,hr⟩
theorem Rep.qI(h:Rep K F v (.tup l)):∃ a xs,v=.ref a/\F a=some (.tup xs)/\bh K F xs l:=by cases h with|tup h hl hr=>exact⟨_,_,rfl,h,hl,hr⟩
theorem Rep.bZ(h:Rep K F v (.lst l)):∃ a xs,v=.ref a/\SqL K F a xs/\bh K F xs l:=by cases h with|lst h hl hr=>exact⟨_,_,rfl,h,hl,hr⟩
end
structure Cf where
 io:Addr->Prop
 nw:Prop
 H0:Hp
 F0:Hp
 E:XK
inductive Sl where
 |sh (p:PV)|ow (p:PV)|dp (p:PV)
noncomputable abbrev Rho:=List (Option Sl)
def Own(K:PySem.W.Frag)(F H:Hp)(a:Addr):PV->Prop
 |.lst l=>∃ xs,H a=some (.lst xs)/\bh K F xs l
 |.dk l=>∃ xs,H a=some (.dK xs)/\xs.map (·.1)=l.map (·.1)/\∀ (j:Nat) x p,xs[j]?=some x->l[j]?=some p->Rep K F x.2 p.2
 |.dt l=>∃ xs,H a=some (.dT xs)/\xs.map (·.1)=l.map (·.1)/\∀ (j:Nat) x p,xs[j]?=some x->l[j]?=some p->Rep K F x.2 p.2
 |_=>False
inductive Dp(K:PySem.W.Frag)(F H:Hp):(Addr->Prop)->V->PV->Prop
 |fr {P:Addr->Prop}{v:V}{p:PV} (h:Rep K F v p) (st:p.still=true):Dp K F H P v p
 |lst {P:Addr->Prop}{S:Nat->Addr->Prop}{a:Addr}{xs:List V}{l:List PV} (h:H a=some (.lst xs)) (hp:P a) (hs:∀ j b,S j b->P b/\b≠a) (dj:∀ i j b,S i b->S j b->i=j) (hl:xs.length=l.length)
   (hr:∀ (j:Nat) x p,xs[j]?=some x->l[j]?=some p->Dp K F H (S j) x p):Dp K F H P (.ref a) (.lst l)
 |tup {P:Addr->Prop}{S:Nat->Addr->Prop}{a:Addr}{xs:List V}{l:List PV} (h:H a=some (.tup xs)) (hs:∀ j b,S j b->P b) (dj:∀ i j b,S i b->S j b->i=j) (hl:xs.length=l.length)
   (hr:∀ (j:Nat) x p,xs[j]?=some x->l[j]?=some p->Dp K F H (S j) x p):Dp K F H P (.ref a) (.tup l)
 |dk {P:Addr->Prop}{S:Nat->Addr->Prop}{a:Addr}{xs:List (Key×V)}{l:List (Key×PV)} (h:H a=some (.dK xs)) (hp:P a) (hs:∀ j b,S j b->P b/\b≠a) (dj:∀ i j b,S i b->S j b->i=j) (hl:xs.map (·.1)=l.map (·.1))
   (hr:∀ (j:Nat) x p,xs[j]?=some x->l[j]?=some p->Dp K F H (S j) x.2 p.2):Dp K F H P (.ref a) (.dk l)
 |dt {P:Addr->Prop}{S:Nat->Addr->Prop}{a:Addr}{xs:List (List Key×V)}{l:List (List Key×PV)} (h:H a=some (.dT xs)) (hp:P a) (hs:∀ j b,S j b->P b/\b≠a) (dj:∀ i j b,S i b->S j b->i=j) (hl:xs.map (·.1)=l.map (·.1))
   (hr:∀ (j:Nat) x p,xs[j]?=some x->l[j]?=some p->Dp K F H (S j) x.2 p.2):Dp K F H P (.ref a) (.dt l)
section
variable{K:PySem.W.Frag}{F F' H H':Hp}{v:V}{p:PV}{P P':Addr->Prop}
theorem Dp.mono(h:Dp K F H P v p)(m:∀ b,P b->P' b):Dp K F H P' v p:=by
 cases h with
 |fr h st=>exact .fr h st
 |lst h hp hs dj hl hr=>exact .lst h (m _ hp) (λj b q=>⟨m _ (hs j b q).1,(hs j b q).2⟩) dj hl hr
 |tup h hs dj hl hr=>exact .tup h (λj b q=>m _ (hs j b q)) dj hl hr
 |dk h hp hs dj hl hr=>exact .dk h (m _ hp) (λj b q=>⟨m _ (hs j b q).1,(hs j b q).2⟩) dj hl hr
 |dt h hp hs dj hl hr=>exact .dt h (m _ hp) (λj b q=>⟨m _ (hs j b q).1,(hs j b q).2⟩) dj hl hr
theorem Dp.up(h:Dp K F H P v p)(sf:aP F F')(sh:∀ b o,P b->H b=some o->H' b=some o)(ht:∀ b ys,H b=some (.tup ys)->H' b=some (.tup ys)):Dp K F' H' P v p:=by
 induction h with
 |fr h st=>exact .fr (h.up sf) st
 |lst h hp hs dj hl _ ih=>exact .lst (sh _ _ hp h) hp hs dj hl λj x p e1 e2=>ih j x p e1 e2 λb o q=>sh b o (hs j b q).1
 |tup h hs dj hl _ ih=>exact .tup (ht _ _ h) hs dj hl λj x p e1 e2=>ih j x p e1 e2 λb o q=>sh b o (hs j b q)
 |dk h hp hs dj hl _ ih=>exact .dk (sh _ _ hp h) hp hs dj hl λj x p e1 e2=>ih j x p e1 e2 λb o q=>sh b o (hs j b q).1
 |dt h hp hs dj hl _ ih=>exact .dt (sh _ _ hp h) hp hs dj hl λj x p e1 e2=>ih j x p e1 e2 λb o q=>sh b o (hs j b q).1
theorem Dp.seen(h:Dp K F H P v p)(sf:aP F F')(sh:∀ b o,P b->H b=some o->F' b=some o)(ht:∀ b ys,H b=some (.tup ys)->F' b=some (.tup ys)):Rep K F' v p:=by
 induction h with
 |fr h st=>exact h.up sf
 |lst h hp hs dj hl _ ih=>exact .lst (SqL.of (sh _ _ hp h)) hl λj x p e1 e2=>ih j x p e1 e2 λb o q=>sh b o (hs j b q).1
 |tup h hs dj hl _ ih=>exact .tup (ht _ _ h) hl λj x p e1 e2=>ih j x p e1 e2 λb o q=>sh b o (hs j b q)
 |dk h hp hs dj hl _ ih=>exact .dk (.inl (sh _ _ hp h)) hl λj x p e1 e2=>ih j x p e1 e2 λb o q=>sh b o (hs j b q).1
 |dt h hp hs dj hl _ ih=>exact .dt (.inl (sh _ _ hp h)) hl λj x p e1 e2=>ih j x p e1 e2 λb o q=>sh b o (hs j b q).1
end
structure RD(K:PySem.W.Frag)(C:Cf)(F H:Hp)(σ:St)(ρ:Rho)(P:Nat->Addr->Prop):Prop where
 own:∀ i b,P i b->F b=none/\(∃ o,H b=some o/\∀ ys,o≠.tup ys)/\C.nw/\C.H0 b=none
 dis:∀ i j b,P i b->P j b->i=j
 ow:∀ (i j:Nat) q b,P i b->ρ[j]?=some (some (.ow q))->σ[j]?≠some (some (.ref b))
 dp:∀ (i:Nat) p,ρ[i]?=some (some (.dp p))->∃ v,σ[i]?=some (some v)/\Dp K F H (P i) v p
theorem RD.no{K:PySem.W.Frag}{C:Cf}{F H:Hp}{σ:St}{ρ:Rho}(h:∀ (i:Nat) p,ρ[i]?≠some (some (.dp p))):RD K C F H σ ρ (λ_ _=>False):=
 ⟨λ_ _ q=>q.elim,λ_ _ _ q=>q.elim,λ_ _ _ _ q=>q.elim,λi p e=>absurd e (h i p)⟩
def Frz(H:Hp)(b:Addr)(o:HO):Prop:=H b=none\/∃ ys,o=.tup ys
structure RB(C:Cf)(F H:Hp):Prop where
 sub:aP F H
 keep:∀ b o,C.H0 b=some o->¬C.io b->H b=some o
 new:∀ b o,F b=some o->C.F0 b=some o\/Frz C.H0 b o
 ios:∀ b,C.io b->H b≠none/\C.H0 b≠none
structure RE(K:PySem.W.Frag)(C:Cf)(F H:Hp)(σ:St)(ρ:Rho):Prop where
 rb:RB C F H
 len:σ.length=ρ.length
 sh:∀ (i:Nat) p,ρ[i]?=some (some (.sh p))->∃ v,σ[i]?=some (some v)/\Rep K F v p
 ow:∀ (i:Nat) p,ρ[i]?=some (some (.ow p))->∃ a,σ[i]?=some (some (.ref a))/\Own K F H a p/\F a=none/\(C.io a\/(C.nw/\C.H0 a=none))
 dis:∀ (i j:Nat) p q a,ρ[i]?=some (some (.ow p))->ρ[j]?=some (some (.ow q))->σ[i]?=some (some (.ref a))->σ[j]?=some (some (.ref a))->i=j
 dd:∃ P,RD K C F H σ ρ P
structure Up(F H F' H':Hp):Prop where
 ff:aP F F'
 hh:aP H H'
 fr:∀ b o,F' b=some o->F b=some o\/Frz H b o
 fh:aP F' H'
section
variable{K:PySem.W.Frag}{C:Cf}{F F1 F2 F' H H1 H2 H':Hp}{σ:St}{ρ:Rho}{a:Addr}{p:PV}{v:V}
theorem Up.refl(s:aP F H):Up F H F H:=⟨aP.refl _,aP.refl _,λ_ _ h=>.inl h,s⟩
theorem Up.trans(a:Up F H F1 H1)(b:Up F1 H1 F2 H2):Up F H F2 H2:=
 ⟨a.ff.trans b.ff,a.hh.trans b.hh,λc o h=>(b.fr c o h).elim (a.fr c o) λn=>.inr (n.imp (λn=>a.hh.free n) id),b.fh⟩
theorem Own.ne(h:Own K F H a p):∃ o,H a=some o:=by
 cases p with
 |lst l=>obtain⟨xs,e,_⟩:=h;exact⟨_,e⟩
 |dk l=>obtain⟨xs,e,_⟩:=h;exact⟨_,e⟩
 |dt l=>obtain⟨xs,e,_⟩:=h;exact⟨_,e⟩
 |_=>exact h.elim
theorem Own.t6{ys:List V}(h:Own K F H a p)(e:H a=some (.tup ys)):False:=by
 cases p with
 |lst l=>obtain⟨xs,e',_⟩:=h;rw[e] at e';cases e'
 |dk l=>obtain⟨xs,e',_⟩:=h;rw[e] at e';cases e'
 |dt l=>obtain⟨xs,e',_⟩:=h;rw[e] at e';cases e'
 |_=>exact h.elim
theorem RD.up{P:Nat->Addr->Prop}(d:RD K C F H σ ρ P)(u:Up F H F' H'):RD K C F' H' σ ρ P where
 own:=λi b q=>by
  obtain⟨a1,⟨o',a2,a3⟩,a4⟩:=d.own i b q;refine⟨?_,⟨o',u.hh _ _ a2,a3⟩,a4⟩;cases e:F' b with
  |none=>rfl
  |some o=>
   rcases u.fr b o e with z|z|⟨ys,z⟩
   ·rw[a1] at z;cases z
   ·rw[a2] at z;cases z
   ·subst z;have w:=u.fh _ _ e;rw[u.hh _ _ a2] at w;cases w;exact absurd rfl (a3 ys)
 dis:=d.dis
 ow:=d.ow
 dp:=λi p e=>let⟨v,e1,e2⟩:=d.dp i p e;⟨v,e1,e2.up u.ff (λb o _ q=>u.hh b o q) λb ys q=>u.hh b _ q⟩
theorem Own.up(h:Own K F H a p)(sf:aP F F')(sh:∀ o,H a=some o->H' a=some o):Own K F' H' a p:=by
 cases p with
 |lst l=>obtain⟨xs,e,r⟩:=h;exact⟨xs,sh _ e,r.up sf⟩
 |dk l=>obtain⟨xs,e,r,q⟩:=h;exact⟨xs,sh _ e,r,λj x p a b=>(q j x p a b).up sf⟩
 |dt l=>obtain⟨xs,e,r,q⟩:=h;exact⟨xs,sh _ e,r,λj x p a b=>(q j x p a b).up sf⟩
 |_=>exact h.elim
theorem Own.frozen(h:Own K F H a p)(hn:F a=none):∃ o,H a=some o/\Rep K (upd F a o) (.ref a) p:=by
 have s:∀ o,aP F (upd F a o):=λo=>di hn;cases p with
 |lst l=>obtain⟨xs,e,r⟩:=h;exact⟨_,e,.lst (SqL.of au) r.1 (r.up (s _)).2⟩
 |dk l=>obtain⟨xs,e,r,q⟩:=h;exact⟨_,e,.dk (.inl au) r λj x p a b=>(q j x p a b).up (s _)⟩
 |dt l=>obtain⟨xs,e,r,q⟩:=h;exact⟨_,e,.dt (.inl au) r λj x p a b=>(q j x p a b).up (s _)⟩
 |_=>exact h.elim
theorem Own.lent(h:Own K F H a p)(s:aP F H):Rep K H (.ref a) p:=by
 cases p with
 |lst l=>obtain⟨xs,e,r⟩:=h;exact .lst (SqL.of e) r.1 (r.up s).2
 |dk l=>obtain⟨xs,e,r,q⟩:=h;exact .dk (.inl e) r λj x p a b=>(q j x p a b).up s
 |dt l=>obtain⟨xs,e,r,q⟩:=h;exact .dt (.inl e) r λj x p a b=>(q j x p a b).up s
 |_=>exact h.elim
theorem RB.up(h:RB C F H)(u:Up F H F' H'):RB C F' H' where
 sub:=u.fh
 keep:=λb o e n=>u.hh _ _ (h.keep b o e n)
 new:=λb o e=>(u.fr b o e).elim (h.new b o) λn=>.inr (n.imp (λn=>by
  cases q:C.H0 b with
  |none=>rfl
  |some o'=>
   by_cases hi:C.io b
   ·exact absurd n (h.ios b hi).1
   ·rw[h.keep b o' q hi] at n;cases n) id)
 ios:=λb hb=>⟨λn=>(h.ios b hb).1 (u.hh.free n),(h.ios b hb).2⟩
theorem RB.t7(h:RB C F H){b:Addr}(n:H b=none):C.H0 b=none:=by
 cases q:C.H0 b with
 |none=>rfl
 |some o'=>
  by_cases hi:C.io b
  ·exact absurd n (h.ios b hi).1
  ·rw[h.keep b o' q hi] at n;cases n
theorem RE.up(h:RE K C F H σ ρ)(u:Up F H F' H'):RE K C F' H' σ ρ where
 rb:=h.rb.up u
 len:=h.len
 sh:=λi p e=>let⟨v,e1,e2⟩:=h.sh i p e;⟨v,e1,e2.up u.ff⟩
 ow:=λi p e=>by
  obtain⟨a,e1,e2,e3,e4⟩:=h.ow i p e;refine⟨a,e1,e2.up u.ff λo q=>u.hh _ _ q,?_,e4⟩;cases q:F' a with
  |none=>rfl
  |some o=>
   obtain⟨o',eo⟩:=e2.ne;rcases u.fr a o q with z|z|⟨ys,z⟩
   ·rw[e3] at z;cases z
   ·rw[eo] at z;cases z
   ·subst z;exact absurd (u.fh _ _ q) (λw=>by rw[u.hh _ _ eo] at w;cases w;exact e2.t6 eo)
 dis:=h.dis
 dd:=let⟨P,d⟩:=h.dd;⟨P,d.up u⟩
theorem get_set{α:Type}{l:List α}{i j:Nat}{x y:α}(h:(l.set i x)[j]?=some y):(i=j/\x=y)\/(i≠j/\l[j]?=some y):=by
 rw[List.getElem?_set] at h;by_cases e:i=j
 ·subst e;rw[Zag rfl] at h;split at h
  ·exact .inl ⟨rfl,Zab h⟩
  ·cases h
 ·rw[Zae e] at h;exact .inr ⟨e,h⟩
theorem cz{α:Type}{l:List α}{j:Nat}{y:α}(h:l[j]?=some y):j<l.length:=(Zac.mp h).1
theorem RE.set(h:RE K C F H σ ρ)(i:Nat)(r:Rep K F v p):RE K C F H (σ.set i (some v)) (ρ.set i (some (.sh p))) where
 rb:=h.rb
 len:=by simp[h.len]
 sh:=λj q e=>by
  rcases get_set e with⟨e1,e2⟩|⟨e1,e2⟩
  ·subst e1;cases e2;have:=cz e;exact⟨v,by rw[ZaT (by rw[h.len];simpa using this)],r⟩
  ·obtain⟨w,e3,e4⟩:=h.sh j q e2;exact⟨w,by rw[Zak e1];exact e3,e4⟩
 ow:=λj q e=>by
  rcases get_set e with⟨e1,e2⟩|⟨e1,e2⟩
  ·cases e2
  ·obtain⟨w,e3,e4⟩:=h.ow j q e2;exact⟨w,by rw[Zak e1];exact e3,e4⟩
 dis:=λj k q q' a e e' f f'=>by
  rcases get_set e with⟨e1,e2⟩|⟨e1,e2⟩
  ·cases e2
  ·rcases get_set e' with⟨e1',e2'⟩|⟨e1',e2'⟩
   ·cases e2'
   ·rw[Zak e1] at f;rw[Zak e1'] at f';exact h.dis j k q q' a e2 e2' f f'
 dd:=let⟨P,d⟩:=h.dd;⟨P,d.own,d.dis,λj k q b z e f=>by
   rcases get_set e with⟨e1,e2⟩|⟨e1,e2⟩
   ·cases e2
   ·rw[Zak e1] at f;exact d.ow j k q b z e2 f,λj q e=>by
   rcases get_set e with⟨e1,e2⟩|⟨e1,e2⟩
   ·cases e2
   ·obtain⟨w,e3,e4⟩:=d.dp j q e2;exact⟨w,by rw[Zak e1];exact e3,e4⟩⟩
theorem RE.X8(h:RE K C F H σ ρ)(i:Nat)(r:Own K F H a p)(hn:F a=none)(nw:C.nw)(h0:C.H0 a=none)(ha:∀ (j:Nat) q,ρ[j]?=some (some (.ow q))->j≠i->σ[j]?≠some (some (.ref a)))(hd:∃ P,RD K C F H σ ρ P/\∀ j,¬P j a) :
  RE K C F H (σ.set i (some (.ref a))) (ρ.set i (some (.ow p))) where
 rb:=h.rb
 len:=by simp[h.len]
 sh:=λj q e=>by
  rcases get_set e with⟨e1,e2⟩|⟨e1,e2⟩
  ·cases e2
  ·obtain⟨w,e3,e4⟩:=h.sh j q e2;exact⟨w,by rw[Zak e1];exact e3,e4⟩
 ow:=λj q e=>by
  rcases get_set e with⟨e1,e2⟩|⟨e1,e2⟩
  ·subst e1;cases e2;have:=cz e;exact⟨a,by rw[ZaT (by rw[h.len];simpa using this)],r,hn,.inr ⟨nw,h0⟩⟩
  ·obtain⟨w,e3,e4⟩:=h.ow j q e2;exact⟨w,by rw[Zak e1];exact e3,e4⟩
 dis:=λj k q q' b e e' f f'=>by
  rcases get_set e with⟨e1,e2⟩|⟨e1,e2⟩
  ·rcases get_set e' with⟨e1',e2'⟩|⟨e1',e2'⟩
   ·exact e1.symm.trans e1'
   ·subst e1;have:=cz e;rw[ZaT (by rw[h.len];simpa using this)] at f
    cases f;rw[Zak e1'] at f';exact absurd f' (ha k q' e2' (ZaX e1'))
  ·rcases get_set e' with⟨e1',e2'⟩|⟨e1',e2'⟩
   ·subst e1';have:=cz e';rw[ZaT (by rw[h.len];simpa using this)] at f'
    cases f';rw[Zak e1] at f;exact absurd f (ha j q e2 (ZaX e1))
   ·rw[Zak e1] at f;rw[Zak e1'] at f';exact h.dis j k q q' b e2 e2' f f'
 dd:=let⟨P,d,na⟩:=hd;⟨P,d.own,d.dis,λj k q b z e f=>by
   rcases get_set e with⟨e1,e2⟩|⟨e1,e2⟩
   ·subst e1;have:=cz e;rw[ZaT (by rw[h.len];simpa using this)] at f
    cases f;exact na j z
   ·rw[Zak e1] at f;exact d.ow j k q b z e2 f,λj q e=>by
   rcases get_set e with⟨e1,e2⟩|⟨e1,e2⟩
   ·cases e2
   ·obtain⟨w,e3,e4⟩:=d.dp j q e2;exact⟨w,by rw[Zak e1];exact e3,e4⟩⟩
theorem RE.U3(h:RE K C F H σ ρ)(n:H a=none)(u:Up F H F' H'):∃ P,RD K C F' H' σ ρ P/\∀ j,¬P j a:=by
 obtain⟨P,d⟩:=h.dd;exact⟨P,d.up u,λj z=>by obtain⟨_,⟨o,e,_⟩,_⟩:=d.own j a z;rw[n] at e;cases e⟩
theorem RE.apart(h:RE K C F H σ ρ)(n:H a=none)(j:Nat)(q:PV)(e:ρ[j]?=some (some (.ow q))):σ[j]?≠some (some (.ref a)):=λf=>by
 obtain⟨b,e1,e2,_⟩:=h.ow j q e;rw[e1] at f;cases f;obtain⟨o,eo⟩:=e2.ne;rw[eo] at n;cases n
theorem RE.write(h:RE K C F H σ ρ){i:Nat}{o:HO}{p':PV}(e:ρ[i]?=some (some (.ow p)))(ea:σ[i]?=some (some (.ref a)))(r:Own K F (upd H a o) a p') :
  RE K C F (upd H a o) σ (ρ.set i (some (.ow p'))):=by
 obtain⟨a',e1,e2,e3,e4⟩:=h.ow i p e;rw[ea] at e1;cases e1;have ne:∀ b u,F b=some u->b≠a:=λb u q z=>by rw[z,e3] at q;cases q
 refine⟨⟨λb u q=>by rw[aq (ne b u q)];exact h.rb.sub b u q,λb u q n=>?_,h.rb.new,λb hb=>⟨?_,(h.rb.ios b hb).2⟩⟩,by simp[h.len],λj q f=>?_,λj q f=>?_,λj k q q' b f f' g g'=>?_,?_⟩
 ·have:b≠a:=λz=>by
   subst z;rcases e4 with z|z
   ·exact n z
   ·rw[z.2] at q;cases q
  rw[aq this];exact h.rb.keep b u q n
 ·by_cases hba:b=a
  ·subst hba;rw[au];simp
  ·rw[aq hba];exact(h.rb.ios b hb).1
 ·rcases get_set f with⟨e1,f2⟩|⟨e1,f2⟩
  ·cases f2
  ·exact h.sh j q f2
 ·rcases get_set f with⟨e1,f2⟩|⟨e1,f2⟩
  ·subst e1;cases f2;exact⟨a,ea,r,e3,e4⟩
  ·obtain⟨b,g1,g2,g3,g4⟩:=h.ow j q f2;refine⟨b,g1,g2.up (aP.refl _) λu qq=>?_,g3,g4⟩;have:b≠a:=λz=>by subst z;exact e1 (h.dis i j p q b e f2 ea g1)
   rw[aq this];exact qq
 ·have key:∀ (j:Nat) q,(ρ.set i (some (Sl.ow p')))[j]?=some (some (.ow q))->∃ q0,ρ[j]?=some (some (.ow q0)):=λj q f=>by
   rcases get_set f with⟨e1,f2⟩|⟨e1,f2⟩
   ·subst e1;exact⟨p,e⟩
   ·exact⟨q,f2⟩
  obtain⟨q0,k0⟩:=key j q f;obtain⟨q1,k1⟩:=key k q' f';exact h.dis j k q0 q1 b k0 k1 g g'
 ·obtain⟨P,d⟩:=h.dd;have na:∀ j b,P j b->b≠a:=λj b z e'=>by subst e';exact d.ow j i p b z e ea
  refine⟨P,λj b z=>?_,d.dis,λj k q b z f g=>?_,λj q f=>?_⟩
  ·rw[aq (na j b z)];exact d.own j b z
  ·rcases get_set f with⟨f1,f2⟩|⟨f1,f2⟩
   ·subst f1;exact d.ow j i p b z e g
   ·exact d.ow j k q b z f2 g
  ·rcases get_set f with⟨f1,f2⟩|⟨f1,f2⟩
   ·cases f2
   ·obtain⟨w,e3,e5⟩:=d.dp j q f2;exact⟨w,e3,e5.up (aP.refl _) (λb o z q=>by rw[aq (na j b z)];exact q) λb ys q=>by rw[aq λz=>by subst z;exact e2.t6 q];exact q⟩
end
structure Cg extends Cf where
 XR:Hp->Value->Option Addr->PV->Prop
def PX(C:Cg)(F:Hp)(z:PV):Prop:=∀ e d F' H',aP F F'->RB C.toCf F' H'->C.XR F' e d z->C.E e d H'
def Pr{α:Type}(C:Cg)(F:Hp)(ok:α->Prop):Res α->Prop
 |.ok a=>ok a
 |.ex z=>PX C F z
noncomputable abbrev Rel(α:Type):=Hp->Hp->V->α->Prop
def aF(K:PySem.W.Frag):Rel PV:=λF _ v p=>Rep K F v p
def aH(K:PySem.W.Frag):Rel PV:=λ_ H v p=>Rep K H v p
def aV(K:PySem.W.Frag):Rel (List PV):=λF H v l=>∃ a xs,v=.ref a/\SqL K H a xs/\bh K F xs l
def UpM{α:Type}(A:Rel α):Prop:=∀ F H F' H' v a,Up F H F' H'->A F H v a->A F' H' v a
theorem aF.up{K:PySem.W.Frag}:UpM (aF K):=λ_ _ _ _ _ _ u h=>Rep.up h u.ff
theorem aH.up{K:PySem.W.Frag}:UpM (aH K):=λ_ _ _ _ _ _ u h=>Rep.up h u.hh
theorem aV.up{K:PySem.W.Frag}:UpM (aV K):=λ_ _ _ _ _ _ u h=>let⟨a,xs,e,s,r⟩:=h;⟨a,xs,e,u.hh.seq s,r.up u.ff⟩
noncomputable abbrev Fn(α:Type):=Rho->Option (Res α)
def MJ{α:Type}(K:PySem.W.Frag)(C:Cg)(A:Rel α)(te:TE)(f:Fn α):Prop:=
 ∀ F H σ ρ Q r,RE K C.toCf F H σ ρ->f ρ=some r->Pr C F (λa=>∀ v F' H',Up F H F' H'->A F' H' v a->Q v H') r->te σ H Q
def MT(K:PySem.W.Frag)(C:Cg)(tt:TT)(f:Fn Bool):Prop:=
 ∀ F H σ ρ Q r,RE K C.toCf F H σ ρ->f ρ=some r->Pr C F (λb=>∀ F' H',Up F H F' H'->Q b H') r->tt σ H Q
def MA(K:PySem.W.Frag)(C:Cg)(ta:TA)(f:Fn (List PV)):Prop:=
 ∀ F H σ ρ Q r,RE K C.toCf F H σ ρ->f ρ=some r->Pr C F (λl=>∀ xs F' H',Up F H F' H'->bh K F' xs l->Q xs H') r->ta σ H Q
def MAL(K:PySem.W.Frag)(C:Cg)(ta:TA)(f:Fn (List PV)):Prop:=
 ∀ F H σ ρ Q r,RE K C.toCf F H σ ρ->f ρ=some r->Pr C F (λl=>∀ xs F' H',Up F H F' H'->bh K H' xs l->Q xs H') r->ta σ H Q
def MO(K:PySem.W.Frag)(C:Cg)(te:TE)(f:Fn PV):Prop:=
 ∀ F H σ ρ Q r,RE K C.toCf F H σ ρ->f ρ=some r->Pr C F (λp=>∀ a F' H',Up F H F' H'->H a=none->F' a=none->Own K F' H' a p->Q (.ref a) H') r->te σ H Q
theorem bK{α β:Type}{x:Option (Res α)}{k:α->Option (Res β)}{r:Res β}(h:bnd x k=some r):(∃ z,x=some (.ex z)/\r=.ex z)\/∃ a,x=some (.ok a)/\k a=some r:=by
 match x,h with
 |some (.ok a),h=>exact .inr ⟨a,rfl,h⟩
 |some (.ex z),h=>exact .inl ⟨z,rfl,(Zab h).symm⟩
theorem PX.up{C:Cg}{F F1:Hp}{z:PV}(h:PX C F z)(s:aP F F1):PX C F1 z:=λe d F' H' a b c=>h e d F' H' (s.trans a) b c
theorem Pr.mono{α:Type}{C:Cg}{F F1:Hp}{ok ok':α->Prop}{r:Res α}(h:Pr C F ok r)(s:aP F F1)(k:∀ a,ok a->ok' a):Pr C F1 ok' r:=by
 cases r with
 |ok a=>exact k a h
 |ex z=>exact PX.up h s
section
variable{K:PySem.W.Frag}{C:Cg}{α β γ:Type}{A:Rel α}{B:Rel β}{D:Rel γ}{ta tb:TE}{f:Fn α}{g:Fn β}{F H:Hp}{σ:St}{ρ:Rho}{Q:VK}
theorem MJ.run{ok:β->Prop}{k:α->Option (Res β)}{r:Res β}(h:MJ K C A ta f)(R:RE K C.toCf F H σ ρ)(hb:bnd (f ρ) k=some r)(P:Pr C F ok r)
  (go:∀ p v F1 H1,k p=some r->Up F H F1 H1->A F1 H1 v p->Q v H1):ta σ H Q:=by
 rcases bK hb with⟨z,e,rfl⟩|⟨p,e,hk⟩
 ·exact h F H σ ρ Q _ R e P
 ·exact h F H σ ρ Q _ R e λv F1 H1 u a=>go p v F1 H1 hk u a
theorem MT.run{tt:TT}{f:Fn Bool}{Q:Bool->Hp->Prop}{ok:β->Prop}{k:Bool->Option (Res β)}{r:Res β}(h:MT K C tt f)(R:RE K C.toCf F H σ ρ)(hb:bnd (f ρ) k=some r)(P:Pr C F ok r)
  (go:∀ b F1 H1,k b=some r->Up F H F1 H1->Q b H1):tt σ H Q:=by
 rcases bK hb with⟨z,e,rfl⟩|⟨p,e,hk⟩
 ·exact h F H σ ρ Q _ R e P
 ·exact h F H σ ρ Q _ R e λF1 H1 u=>go p F1 H1 hk u
theorem MA.run{t:TA}{f:Fn (List PV)}{Q:List V->Hp->Prop}{ok:β->Prop}{k:List PV->Option (Res β)}{r:Res β}(h:MA K C t f)(R:RE K C.toCf F H σ ρ)(hb:bnd (f ρ) k=some r)(P:Pr C F ok r)
  (go:∀ l xs F1 H1,k l=some r->Up F H F1 H1->bh K F1 xs l->Q xs H1):t σ H Q:=by
 rcases bK hb with⟨z,e,rfl⟩|⟨p,e,hk⟩
 ·exact h F H σ ρ Q _ R e P
 ·exact h F H σ ρ Q _ R e λxs F1 H1 u a=>go p xs F1 H1 hk u a
theorem MAL.run{t:TA}{f:Fn (List PV)}{Q:List V->Hp->Prop}{ok:β->Prop}{k:List PV->Option (Res β)}{r:Res β}(h:MAL K C t f)(R:RE K C.toCf F H σ ρ)(hb:bnd (f ρ) k=some r)(P:Pr C F ok r)
  (go:∀ l xs F1 H1,k l=some r->Up F H F1 H1->bh K H1 xs l->Q xs H1):t σ H Q:=by
 rcases bK hb with⟨z,e,rfl⟩|⟨p,e,hk⟩
 ·exact h F H σ ρ Q _ R e P
 ·exact h F H σ ρ Q _ R e λxs F1 H1 u a=>go p xs F1 H1 hk u a
theorem Pr.later{D:Rel γ}{r:Res γ}{F1 H1:Hp}(P:Pr C F (λa=>∀ v F' H',Up F H F' H'->D F' H' v a->Q v H') r)(u:Up F H F1 H1):Pr C F1 (λa=>∀ v F' H',Up F1 H1 F' H'->D F' H' v a->Q v H') r:=
 P.mono u.ff λ_ h v F' H' u' d=>h v F' H' (u.trans u') d
theorem Pr.U4{Q:Bool->Hp->Prop}{r:Res Bool}{F1 H1:Hp}(P:Pr C F (λb=>∀ F' H',Up F H F' H'->Q b H') r)(u:Up F H F1 H1):Pr C F1 (λb=>∀ F' H',Up F1 H1 F' H'->Q b H') r:=
 P.mono u.ff λ_ h F' H' u'=>h F' H' (u.trans u')
theorem Pr.vB{r:Res PV}{F1 H1:Hp}(P:Pr C F (λp=>∀ a F' H',Up F H F' H'->H a=none->F' a=none->Own K F' H' a p->Q (.ref a) H') r)(u:Up F H F1 H1) :
  Pr C F1 (λp=>∀ a F' H',Up F1 H1 F' H'->H1 a=none->F' a=none->Own K F' H' a p->Q (.ref a) H') r:=
 P.mono u.ff λ_ h a F' H' u' n1 n2 d=>h a F' H' (u.trans u') (u.hh.free n1) n2 d
theorem Pr.U5{Q:List V->Hp->Prop}{r:Res (List PV)}{F1 H1:Hp}(P:Pr C F (λl=>∀ xs F' H',Up F H F' H'->bh K F' xs l->Q xs H') r)(u:Up F H F1 H1):Pr C F1 (λl=>∀ xs F' H',Up F1 H1 F' H'->bh K F' xs l->Q xs H') r:=
 P.mono u.ff λ_ h xs F' H' u' d=>h xs F' H' (u.trans u') d
theorem Pr.U6{Q:List V->Hp->Prop}{r:Res (List PV)}{F1 H1:Hp}(P:Pr C F (λl=>∀ xs F' H',Up F H F' H'->bh K H' xs l->Q xs H') r)(u:Up F H F1 H1):Pr C F1 (λl=>∀ xs F' H',Up F1 H1 F' H'->bh K H' xs l->Q xs H') r:=
 P.mono u.ff λ_ h xs F' H' u' d=>h xs F' H' (u.trans u') d
def mV(i:Nat):Fn PV:=λρ=>match ρ[i]? with
 |some (some (.sh p))=>some (.ok p)
 |_=>none
theorem ak(i:Nat):MJ K C (aF K) (iZ i) (mV i):=by
 intro F H σ ρ Q r R e P;unfold mV at e;split at e
 ·rename_i p hp;cases e;obtain⟨v,e1,e2⟩:=R.sh i p hp;exact⟨v,e1,P v F H (Up.refl R.rb.sub) e2⟩
 ·cases e
def mVL(i:Nat):Fn PV:=λρ=>match ρ[i]? with
 |some (some (.sh p))=>some (.ok p)
 |some (some (.ow p))=>some (.ok p)
 |_=>none
theorem bL(i:Nat):MJ K C (aH K) (iZ i) (mVL i):=by
 intro F H σ ρ Q r R e P;unfold mVL at e;split at e
 ·rename_i p hp;cases e;obtain⟨v,e1,e2⟩:=R.sh i p hp;exact⟨v,e1,P v F H (Up.refl R.rb.sub) (e2.up R.rb.sub)⟩
 ·rename_i p hp;cases e;obtain⟨a,e1,e2,e3,_⟩:=R.ow i p hp;exact⟨_,e1,P _ F H (Up.refl R.rb.sub) (e2.lent R.rb.sub)⟩
 ·cases e
def t8:PV->Option (Res (List PV))
 |.lst l=>some (.ok l)
 |_=>none
theorem Ae{f:Fn PV}(h:MJ K C (aF K) ta f):MJ K C (aV K) ta (λρ=>bnd (f ρ) t8):=by
 intro F H σ ρ Q r R e P;refine h.run R e P λp v F1 H1 hk u a=>?_
 match p,hk with
 |.lst l,hk=>
  cases hk;obtain⟨b,xs,rfl,s,rr⟩:=Rep.bZ a;exact P _ F1 H1 u ⟨b,xs,rfl,u.fh.seq s,rr⟩
theorem qJ(i:Nat):MJ K C (aV K) (iZ i) (λρ=>bnd (mVL i ρ) t8):=by
 intro F H σ ρ Q r R e P;rcases bK e with⟨z,e1,rfl⟩|⟨p,e1,hk⟩
 ·unfold mVL at e1;split at e1<;>cases e1
 ·unfold mVL at e1
  match p,hk with
  |.lst l,hk=>
   cases hk;split at e1
   ·rename_i q hq;cases e1;obtain⟨v,e2,e3⟩:=R.sh i _ hq;obtain⟨b,xs,rfl,s,rr⟩:=Rep.bZ e3;exact⟨_,e2,P _ F H (Up.refl R.rb.sub) ⟨b,xs,rfl,R.rb.sub.seq s,rr⟩⟩
   ·rename_i q hq;cases e1;obtain⟨a,e2,⟨xs,e3,rr⟩,_⟩:=R.ow i _ hq;exact⟨_,e2,P _ F H (Up.refl R.rb.sub) ⟨a,xs,rfl,SqL.of e3,rr⟩⟩
   ·cases e1
theorem dW{f:Fn PV}(h:MJ K C (aF K) ta f):MJ K C (aH K) ta f:=by
 intro F H σ ρ Q r R e P;refine h F H σ ρ Q r R e ?_;exact P.mono (aP.refl _) λ_ k v F' H' u d=>k v F' H' u (Rep.up d u.fh)
def mC(p:PV):Fn PV:=λ_=>some (.ok p)
theorem MK{v:V}{p:PV}(h:∀ F,Rep K F v p):MJ K C (aF K) (tC v) (mC p):=by
 intro F H σ ρ Q r R e P;cases e;exact P v F H (Up.refl R.rb.sub) (h F)
theorem aG{i:Int}:MJ K C (aF K) (tC (.int i)) (mC (.int i)):=MK λ_=>.int
theorem vC{i:Bool}:MJ K C (aF K) (tC (.bl i)) (mC (.bl i)):=MK λ_=>.bl
theorem vD{i:Str}:MJ K C (aF K) (tC (.str i)) (mC (.str i)):=MK λ_=>.str
theorem mQ:MJ K C (aF K) (tC .non) (mC .non):=MK λ_=>.non
theorem Tp{n:String}:MJ K C (aF K) (tC (.ty n)) (mC (.ty n)):=MK λ_=>.ty
theorem cP{f:Fn PV}(h:MO K C ta f):MJ K C (aF K) ta f:=by
 intro F H σ ρ Q r R e P;refine h F H σ ρ Q r R e (P.mono (aP.refl _) λp k a F' H' u n1 n2 o=>?_);obtain⟨ob,eo,rr⟩:=o.frozen n2;refine k _ (upd F' a ob) H' ⟨u.ff.trans (di n2),u.hh,λb x q=>?_,λb x q=>?_⟩ rr
 ·by_cases hb:b=a
  ·subst hb;exact .inr (.inl n1)
  ·rw[aq hb] at q;exact u.fr b x q
 ·by_cases hb:b=a
  ·subst hb;rw[au] at q;cases q;exact eo
  ·rw[aq hb] at q;exact u.fh b x q
theorem nP{f:Fn PV}(h:MO K C ta f):MJ K C (aV K) ta (λρ=>bnd (f ρ) t8):=Ae (cP h)
def m2{α β γ:Type}(op:α->β->Option (Res γ))(f:Fn α)(g:Fn β):Fn γ:=λρ=>bnd (f ρ) λa=>bnd (g ρ) λb=>op a b
def R2M(C:Cg)(A:Rel α)(B:Rel β)(D:Rel γ)(r:R2)(op:α->β->Option (Res γ)):Prop:=
 ∀ F H x y a b res Q,aP F H->A F H x a->B F H y b->op a b=some res->Pr C F (λc=>∀ v F' H',Up F H F' H'->D F' H' v c->Q v H') res->r x y H Q
theorem aJ{op:α->β->Option (Res γ)}{r2:R2}(up:UpM A)(rule:R2M C A B D r2 op)(ha:MJ K C A ta f)(hb:MJ K C B tb g):MJ K C D (tOp r2 ta tb) (m2 op f g):=by
 intro F H σ ρ Q r R e P;refine ha.run R e P λp v F1 H1 hk u a=>?_;refine hb.run (R.up u) hk (P.later u) λq w F2 H2 hk2 u2 b=>?_;exact rule F2 H2 v w p q r Q u2.fh (up _ _ _ _ _ _ u2 a) b hk2 (P.later (u.trans u2))
def R2O(K:PySem.W.Frag)(C:Cg)(A:Rel α)(B:Rel β)(r:R2)(op:α->β->Option (Res PV)):Prop:=
 ∀ F H x y a b res Q,aP F H->A F H x a->B F H y b->op a b=some res->Pr C F (λp=>∀ a F' H',Up F H F' H'->H a=none->F' a=none->Own K F' H' a p->Q (.ref a) H') res->r x y H Q
theorem MN{op:α->β->Option (Res PV)}{r2:R2}(up:UpM A)(rule:R2O K C A B r2 op)(ha:MJ K C A ta f)(hb:MJ K C B tb g):MO K C (tOp r2 ta tb) (m2 op f g):=by
 intro F H σ ρ Q r R e P;refine ha.run R e P λp v F1 H1 hk u a=>?_;refine hb.run (R.up u) hk (P.vB u) λq w F2 H2 hk2 u2 b=>?_;exact rule F2 H2 v w p q r Q u2.fh (up _ _ _ _ _ _ u2 a) b hk2 (P.vB (u.trans u2))
def m1{α γ:Type}(op:α->Option (Res γ))(f:Fn α):Fn γ:=λρ=>bnd (f ρ) op
def dU:PV->Option (Res Bool)
 |.bl b=>some (.ok b)
 |_=>none
theorem bR{f:Fn PV}(ha:MJ K C (aF K) ta f):MT K C (Td ta) (m1 dU f):=by
 intro F H σ ρ Q r R e P;refine ha.run R e P λp v F1 H1 hk u a=>?_
 match p,hk with
 |.bl b,hk=>
  cases Rep.mO a;cases hk;exact⟨b,rfl,P F1 H1 u⟩
theorem jg{f:Fn PV}(ha:MJ K C (aF K) ta f):MT K C (tB ta) (m1 dU f):=bR ha
def mOr(f g:Fn Bool):Fn Bool:=λρ=>bnd (f ρ) λa=>if a=true then some (.ok true) else g ρ
def GP(f:Fn Bool):Fn Bool:=λρ=>bnd (f ρ) λa=>some (.ok (!a))
variable{c d:TT}{fc gc:Fn Bool}
theorem yK(ha:MT K C c fc)(hb:MT K C d gc):MT K C (tOr c d) (mOr fc gc):=by
 intro F H σ ρ Q r R e P;refine ha.run R e P λb F1 H1 hk u=>?_;cases b with
 |true=>rw[Zag rfl] at hk ⊢;cases hk;exact P F1 H1 u
 |false=>rw[Zae (by decide)] at hk ⊢;exact hb F1 H1 σ ρ Q r (R.up u) hk (P.U4 u)
theorem Af(ha:MT K C c fc):MT K C (Wi c) (GP fc):=by
 intro F H σ ρ Q r R e P;refine ha.run R e P λb F1 H1 hk u=>?_;cases hk;exact P F1 H1 u
def mIf{γ:Type}(f:Fn Bool)(g h:Fn γ):Fn γ:=λρ=>bnd (f ρ) λa=>if a=true then g ρ else h ρ
theorem Tq{f g:Fn γ}(hc:MT K C c fc)(ha:MJ K C D ta f)(hb:MJ K C D tb g):MJ K C D (tIf c ta tb) (mIf fc f g):=by
 intro F H σ ρ Q r R e P;refine hc.run R e P λb F1 H1 hk u=>?_;cases b with
 |true=>rw[Zag rfl] at hk ⊢;exact ha F1 H1 σ ρ Q r (R.up u) hk (P.later u)
 |false=>rw[Zae (by decide)] at hk ⊢;exact hb F1 H1 σ ρ Q r (R.up u) hk (P.later u)
def bC:Fn (List PV):=λ_=>some (.ok [])
def aA(f:Fn PV)(g:Fn (List PV)):Fn (List PV):=λρ=>bnd (f ρ) λa=>bnd (g ρ) λl=>some (.ok (a::l))
theorem aR:MA K C vh bC:=λF H σ ρ Q r R e P=>by
 cases e;exact P [] F H (Up.refl R.rb.sub) .nil
theorem ao{f:Fn PV}{g:Fn (List PV)}{t:TA}(ha:MJ K C (aF K) ta f)(hb:MA K C t g):MA K C (jd ta t) (aA f g):=by
 intro F H σ ρ Q r R e P;refine ha.run R e P λp v F1 H1 hk u a=>?_;refine hb.run (R.up u) hk (P.U5 u) λl xs F2 H2 hk2 u2 b=>?_;cases hk2;exact P _ F2 H2 (u.trans u2) (b.cons (Rep.up a u2.ff))
theorem QV:MAL K C vh bC:=λF H σ ρ Q r R e P=>by
 cases e;exact P [] F H (Up.refl R.rb.sub) .nil
theorem vG{f:Fn PV}{g:Fn (List PV)}{t:TA}(ha:MJ K C (aH K) ta f)(hb:MAL K C t g):MAL K C (jd ta t) (aA f g):=by
 intro F H σ ρ Q r R e P;refine ha.run R e P λp v F1 H1 hk u a=>?_;refine hb.run (R.up u) hk (P.U6 u) λl xs F2 H2 hk2 u2 b=>?_;cases hk2;exact P _ F2 H2 (u.trans u2) (b.cons (Rep.up a u2.hh))
theorem Up.GQ{F H:Hp}{a:Addr}{o:HO}(s:aP F H)(h:H a=none):Up F H F (upd H a o):=⟨aP.refl _,di h,λ_ _ q=>.inl q,s.trans (di h)⟩
theorem Up.new{F H:Hp}{a:Addr}{o:HO}(s:aP F H)(h:H a=none):Up F H (upd F a o) (upd H a o):=by
 have hf:F a=none:=s.free h;refine⟨di hf,di h,λb u q=>?_,λb u q=>?_⟩
 ·by_cases hb:b=a
  ·subst hb;exact .inr (.inl h)
  ·rw[aq hb] at q;exact .inl q
 ·by_cases hb:b=a
  ·subst hb;rw[au] at q ⊢;exact q
  ·rw[aq hb] at q ⊢;exact s b u q
def oJ(f:Fn (List PV)):Fn PV:=λρ=>bnd (f ρ) λl=>if l.length<=sizeLine then some (.ok (.tup l)) else none
def GR(f:Fn (List PV)):Fn PV:=λρ=>bnd (f ρ) λl=>if l.length<=sizeLine then some (.ok (.lst l)) else none
theorem gC{t:TA}{f:Fn (List PV)}(h:MA K C t f):MJ K C (aF K) (Uy t) (oJ f):=by
 intro F H σ ρ Q r R e P;refine h.run R e P λl xs F1 H1 hk u a=>?_;split at hk
 ·rename_i hl;cases hk;refine⟨by rw[a.1];exact hl,λp hp=>?_⟩
  have un:=Up.new (o:=.tup xs) u.fh hp;exact P _ _ _ (u.trans un) (.tup au a.1 (a.up un.ff).2)
 ·cases hk
theorem Ag{t:TA}{f:Fn (List PV)}(h:MA K C t f):MO K C (Uz t) (GR f):=by
 intro F H σ ρ Q r R e P;refine h.run R e P λl xs F1 H1 hk u a=>?_;split at hk
 ·rename_i hl;cases hk;refine⟨by rw[a.1];exact hl,λp hp=>?_⟩
  exact P _ _ _ (u.trans (Up.GQ u.fh hp)) (u.hh.free hp) (u.fh.free hp) ⟨xs,au,a⟩
 ·cases hk
def spM(K:PySem.W.Frag)(XR:Hp->Value->Option Addr->PV->Prop)(m:List PV->Option (Res PV)):Sp:=λvs H Q E=>∃ ps F r,aP F H/\bh K F vs ps/\m ps=some r/\match r with
 |.ok p=>∀ v F' H',Up F H F' H'->Rep K F' v p->Q v H'
 |.ex z=>∀ e d F' H',Up F H F' H'->XR F' e d z->E e d H'
def spO(K:PySem.W.Frag)(XR:Hp->Value->Option Addr->PV->Prop)(m:List PV->Option (Res PV)):Sp:=λvs H Q E=>∃ ps F r,aP F H/\bh K F vs ps/\m ps=some r/\match r with
 |.ok p=>∀ a F' H',Up F H F' H'->H a=none->F' a=none->Own K F' H' a p->Q (.ref a) H'
 |.ex z=>∀ e d F' H',Up F H F' H'->XR F' e d z->E e d H'
def bJ(m:List PV->Option (Res PV))(f:Fn (List PV)):Fn PV:=λρ=>bnd (f ρ) m
theorem cA{t:TA}{f:Fn (List PV)}{m:List PV->Option (Res PV)}(h:MA K C t f):MJ K C (aF K) (lX (spM K C.XR m) [] C.E t) (bJ m f):=by
 intro F H σ ρ Q r R e P;refine h.run R e P λl xs F1 H1 hk u a=>?_;refine⟨l,F1,r,u.fh,by rw[ZaJ];exact a,hk,?_⟩
 cases r with
 |ok p=>exact λv F' H' u' rv=>P v F' H' (u.trans u') rv
 |ex z=>exact λe d F' H' u' x=>P e d F' H' (u.trans u').ff (R.rb.up (u.trans u')) x
theorem kW{t:TA}{f:Fn (List PV)}{m:List PV->Option (Res PV)}(h:MA K C t f):MO K C (lX (spO K C.XR m) [] C.E t) (bJ m f):=by
 intro F H σ ρ Q r R e P;refine h.run R e P λl xs F1 H1 hk u a=>?_;refine⟨l,F1,r,u.fh,by rw[ZaJ];exact a,hk,?_⟩
 cases r with
 |ok p=>exact λv F' H' u' n1 n2 rv=>P v F' H' (u.trans u') (u.hh.free n1) n2 rv
 |ex z=>exact λe d F' H' u' x=>P e d F' H' (u.trans u').ff (R.rb.up (u.trans u')) x
end
inductive Out where
 |nx (ρ:Rho)|rt (p:PV)|ro (p:PV)|rd (p:PV)|bk (ρ:Rho)|ct (ρ:Rho)|ex (z:PV)
noncomputable abbrev Sn:=Rho->Option Out
def PO'(K:PySem.W.Frag)(C:Cg)(F:Hp)(D:Ends):Out->Prop
 |.nx ρ=>∀ F' H' σ,aP F F'->RE K C.toCf F' H' σ ρ->D.nx σ H'
 |.bk ρ=>∀ F' H' σ,aP F F'->RE K C.toCf F' H' σ ρ->D.bk σ H'
 |.ct ρ=>∀ F' H' σ,aP F F'->RE K C.toCf F' H' σ ρ->D.ct σ H'
 |.rt p=>∀ v F' H',aP F F'->RB C.toCf F' H'->Rep K F' v p->D.rt v H'
 |.ro p=>∀ a F' H',aP F F'->RB C.toCf F' H'->Own K F' H' a p->F' a=none->C.H0 a=none->D.rt (.ref a) H'
 |.rd p=>∀ v F' H' S,aP F F'->RB C.toCf F' H'->Dp K F' H' S v p->(∀ b,S b->F' b=none/\(∃ o,H' b=some o/\∀ ys,o≠.tup ys)/\C.H0 b=none)->D.rt v H'
 |.ex z=>PX C F z
def MS(K:PySem.W.Frag)(C:Cg)(t:TS)(f:Sn):Prop:=∀ F H σ ρ D o,RE K C.toCf F H σ ρ->f ρ=some o->PO' K C F D o->t D σ H
def fP{α:Type}(x:Option (Res α))(k:α->Option Out):Option Out:=match x with
 |some (.ok a)=>k a
 |some (.ex z)=>some (.ex z)
 |none=>none
theorem QW{α:Type}{a:α}{k:α->Option Out}:fP (some (.ok a)) k=k a:=rfl
theorem b7{α:Type}{x:Option (Res α)}{k:α->Option Out}{o:Out}(h:fP x k=some o):(∃ z,x=some (.ex z)/\o=.ex z)\/∃ a,x=some (.ok a)/\k a=some o:=by
 match x,h with
 |some (.ok a),h=>exact .inr ⟨a,rfl,h⟩
 |some (.ex z),h=>exact .inl ⟨z,rfl,(Zab h).symm⟩
section
variable{K:PySem.W.Frag}{C:Cg}{α:Type}{A:Rel α}{ta te:TE}{F H:Hp}{σ:St}{ρ:Rho}{D:Ends}{t u:TS}{f g:Sn}{o:Out}
theorem PO'.up{F1:Hp}(h:PO' K C F D o)(s:aP F F1):PO' K C F1 D o:=by
 cases o with
 |nx ρ=>exact λF' H' σ a=>h F' H' σ (s.trans a)
 |bk ρ=>exact λF' H' σ a=>h F' H' σ (s.trans a)
 |ct ρ=>exact λF' H' σ a=>h F' H' σ (s.trans a)
 |rt p=>exact λv F' H' a=>h v F' H' (s.trans a)
 |ro p=>exact λv F' H' a=>h v F' H' (s.trans a)
 |rd p=>exact λv F' H' S a=>h v F' H' S (s.trans a)
 |ex z=>exact PX.up h s
theorem MJ.sW{fe:Fn α}{Q:VK}{k:α->Option Out}(h:MJ K C A ta fe)(R:RE K C.toCf F H σ ρ)(hb:fP (fe ρ) k=some o)(P:PO' K C F D o)
  (go:∀ p v F1 H1,k p=some o->Up F H F1 H1->A F1 H1 v p->Q v H1):ta σ H Q:=by
 rcases b7 hb with⟨z,e,rfl⟩|⟨p,e,hk⟩
 ·exact h F H σ ρ Q _ R e P
 ·exact h F H σ ρ Q _ R e λv F1 H1 u a=>go p v F1 H1 hk u a
theorem MO.sW{fe:Fn PV}{Q:VK}{k:PV->Option Out}(h:MO K C ta fe)(R:RE K C.toCf F H σ ρ)(hb:fP (fe ρ) k=some o)(P:PO' K C F D o)
  (go:∀ p a F1 H1,k p=some o->Up F H F1 H1->H a=none->F1 a=none->Own K F1 H1 a p->Q (.ref a) H1):ta σ H Q:=by
 rcases b7 hb with⟨z,e,rfl⟩|⟨p,e,hk⟩
 ·exact h F H σ ρ Q _ R e P
 ·exact h F H σ ρ Q _ R e λa F1 H1 u n1 n2 w=>go p a F1 H1 hk u n1 n2 w
theorem MT.sW{tt:TT}{fe:Fn Bool}{Q:Bool->Hp->Prop}{k:Bool->Option Out}(h:MT K C tt fe)(R:RE K C.toCf F H σ ρ)(hb:fP (fe ρ) k=some o)(P:PO' K C F D o)
  (go:∀ b F1 H1,k b=some o->Up F H F1 H1->Q b H1):tt σ H Q:=by
 rcases b7 hb with⟨z,e,rfl⟩|⟨p,e,hk⟩
 ·exact h F H σ ρ Q _ R e P
 ·exact h F H σ ρ Q _ R e λF1 H1 u=>go p F1 H1 hk u
def fM:Sn:=λρ=>some (.nx ρ)
def bf(f g:Sn):Sn:=λρ=>match f ρ with
 |some (.nx ρ')=>g ρ'
 |x=>x
theorem cO:MS K C SQ fM:=λF H σ ρ D o R e P=>by
 cases e;exact P F H σ (aP.refl _) R
theorem aQ(h1:MS K C t f)(h2:MS K C u g):MS K C (Qs t u) (bf f g):=by
 intro F H σ ρ D o R e P;unfold bf at e;split at e
 ·rename_i ρ' h;refine h1 F H σ ρ _ _ R h ?_;exact λF' H' σ' s R'=>h2 F' H' σ' ρ' D o R' e (P.up s)
 ·rename_i x hx;cases o with
  |nx ρ'=>exact absurd e (hx ρ')
  |bk ρ=>exact h1 F H σ _ _ _ R e P
  |ct ρ=>exact h1 F H σ _ _ _ R e P
  |rt p=>exact h1 F H σ _ _ _ R e P
  |ro p=>exact h1 F H σ _ _ _ R e P
  |rd p=>exact h1 F H σ _ _ _ R e P
  |ex z=>exact h1 F H σ _ _ _ R e P
def M3:Sn:=λρ=>some (.ct ρ)
theorem QX:MS K C SX M3:=λF H σ ρ D o R e P=>by
 cases e;exact P F H σ (aP.refl _) R
def MG(K:PySem.W.Frag)(C:Cg)(g:TG)(tg:PV->Rho->Option Rho):Prop:=
 ∀ F H σ ρ v p ρ' Q,RE K C.toCf F H σ ρ->Rep K F v p->tg p ρ=some ρ'->(∀ σ',RE K C.toCf F H σ' ρ'->Q σ' H)->g v σ H Q
def MGs(K:PySem.W.Frag)(C:Cg)(g:TGs)(tg:List PV->Rho->Option Rho):Prop:=
 ∀ F H σ ρ vs ps ρ' Q,RE K C.toCf F H σ ρ->bh K F vs ps->tg ps ρ=some ρ'->(∀ σ',RE K C.toCf F H σ' ρ'->Q σ' H)->g vs σ H Q
def gN(i:Nat):PV->Rho->Option Rho:=λp ρ=>some (ρ.set i (some (.sh p)))
theorem aN(i:Nat):MG K C (u9 i) (gN i):=λF H σ ρ v p ρ' Q R r e k=>by
 cases e;exact k _ (R.set i r)
def gsNil:List PV->Rho->Option Rho
 |[],ρ=>some ρ
 |_::_,_=>none
def gsCons(t:PV->Rho->Option Rho)(u:List PV->Rho->Option Rho):List PV->Rho->Option Rho
 |[],_=>none
 |p::l,ρ=>match t p ρ with
  |some ρ'=>u l ρ'
  |none=>none
theorem uF:MGs K C Wl gsNil:=λF H σ ρ vs ps ρ' Q R r e k=>by
 cases ps with
 |nil=>cases e;exact⟨r.gQ,k σ R⟩
 |cons p l=>cases e
theorem gZ{g:TG}{gs:TGs}{tg:PV->Rho->Option Rho}{tgs:List PV->Rho->Option Rho}(h:MG K C g tg)(hs:MGs K C gs tgs):MGs K C (S8 g gs) (gsCons tg tgs):=λF H σ ρ vs ps ρ' Q R r e k=>by
 cases ps with
 |nil=>cases e
 |cons p l=>
  obtain⟨v,ys,rfl,r1,r2⟩:=r.cV;have e':(match tg p ρ with
   |some ρ'=>tgs l ρ'
   |none=>none)=some ρ':=e
  split at e'
  ·rename_i ρ1 h1;exact⟨v,ys,rfl,h F H σ ρ v p ρ1 _ R r1 h1 λσ' R'=>hs F H σ' ρ1 ys l ρ' Q R' r2 e' k⟩
  ·cases e'
def gT(n:Nat)(t:List PV->Rho->Option Rho):PV->Rho->Option Rho:=λp ρ=>match p with
 |.tup l=>if l.length=n then t l ρ else none
 |_=>none
theorem Ah{n:Nat}{gs:TGs}{tgs:List PV->Rho->Option Rho}(hs:MGs K C gs tgs):MG K C (Um K n gs) (gT n tgs):=λF H σ ρ v p ρ' Q R r e k=>by
 unfold gT at e;split at e
 ·rename_i l;split at e
  ·rename_i hn;obtain⟨a,xs,rfl,hq,rr⟩:=r.cN;exact⟨a,xs,rfl,R.rb.sub.tup hq,by rw[rr.1];exact hn,hs F H σ ρ xs l ρ' Q R rr e k⟩
  ·cases e
 ·cases e
def cW(fe:Fn PV)(tg:PV->Rho->Option Rho):Sn:=λρ=>fP (fe ρ) λp=>match tg p ρ with
 |some ρ'=>some (.nx ρ')
 |none=>none
theorem bD{fe:Fn PV}{gt:TG}{tg:PV->Rho->Option Rho}(h:MJ K C (aF K) te fe)(hg:MG K C gt tg):MS K C (LK te gt) (cW fe tg):=by
 intro F H σ ρ D o R e P;refine h.sW R e P λp v F1 H1 hk u a=>?_;split at hk
 ·rename_i ρ' h1;cases hk;exact hg F1 H1 σ ρ v p ρ' _ (R.up u) a h1 λσ' R'=>P F1 H1 σ' u.ff R'
 ·cases hk
def uc(i:Nat)(fe:Fn PV):Sn:=λρ=>fP (fe ρ) λp=>some (.nx (ρ.set i (some (.ow p))))
theorem qK{i:Nat}{fe:Fn PV}(nw:C.nw)(h:MO K C te fe):MS K C (LK te (u9 i)) (uc i fe):=by
 intro F H σ ρ D o R e P;refine h.sW R e P λp a F1 H1 hk u n1 n2 w=>?_;cases hk;exact P F1 H1 _ u.ff ((R.up u).X8 i w n2 nw (R.rb.t7 n1) (λj q hj _=>R.apart n1 j q hj) (R.U3 n1 u))
def yL(fe:Fn PV):Sn:=λρ=>fP (fe ρ) λ_=>some (.nx ρ)
def fD(fe:Fn PV):Sn:=λρ=>fP (fe ρ) λp=>some (.rt p)
theorem bW{fe:Fn PV}(h:MJ K C (aF K) te fe):MS K C (JX te) (fD fe):=by
 intro F H σ ρ D o R e P;refine h.sW R e P λp v F1 H1 hk u a=>?_;cases hk;exact P v F1 H1 u.ff (R.rb.up u) a
def ud(fe:Fn PV):Sn:=λρ=>fP (fe ρ) λp=>some (.ro p)
theorem qL{fe:Fn PV}(h:MO K C te fe):MS K C (JX te) (ud fe):=by
 intro F H σ ρ D o R e P;refine h.sW R e P λp a F1 H1 hk u n1 n2 w=>?_;cases hk;exact P a F1 H1 u.ff (R.rb.up u) w n2 (R.rb.t7 n1)
def ownAt(i:Nat)(ρ:Rho):Option PV:=match ρ[i]? with
 |some (some (.ow p))=>some p
 |_=>none
theorem bw{i:Nat}{p:PV}(h:ownAt i ρ=some p):ρ[i]?=some (some (.ow p)):=by
 unfold ownAt at h;split at h
 ·rename_i q hq;cases h;exact hq
 ·cases h
def pN(i:Nat):Sn:=λρ=>match ownAt i ρ with
 |some p=>some (.ro p)
 |none=>none
theorem Dg(i:Nat)(hio:∀ a,¬C.io a):MS K C (JX (iZ i)) (pN i):=by
 intro F H σ ρ D o R e P;unfold pN at e;split at e
 ·rename_i p hp;cases e;obtain⟨a,e1,e2,e3,e4⟩:=R.ow i p (bw hp);exact⟨_,e1,P a F H (aP.refl _) R.rb e2 e3 (e4.resolve_left (hio a)).2⟩
 ·cases e
def Km(i:Nat)(fe:Fn PV):Sn:=λρ=>match ownAt i ρ with
 |some (.lst l)=>fP (fe ρ) λp=>if l.length<sizeLine then some (.nx (ρ.set i (some (.ow (.lst (l++[p])))))) else none
 |_=>none
theorem U7{i:Nat}{fe:Fn PV}(h:MJ K C (aF K) te fe):MS K C (yu (tBM K "list" Aa (iZ i) (jd te vh))) (Km i fe):=by
 intro F H σ ρ D o R e P;unfold Km at e;split at e
 ·rename_i l hl;obtain⟨a,g1,⟨xs,g2,g3⟩,g4,g5⟩:=R.ow i _ (bw hl);refine⟨_,g1,tyL g2,h.sW R e P λp v F1 H1 hk u w=>?_⟩;split at hk
  ·rename_i hlen;cases hk;obtain⟨a',k1,⟨ys,k2,k3⟩,k4,k5⟩:=(R.up u).ow i _ (bw hl);rw[g1] at k1;cases k1;refine⟨a,ys,v,rfl,rfl,k2,by rw[k3.1];exact hlen,?_⟩
   exact P F1 _ σ u.ff ((R.up u).write (bw hl) g1 ⟨_,au,k3.snoc w⟩)
  ·cases hk
 ·cases e
def jh(fc:Fn Bool)(f g:Sn):Sn:=λρ=>fP (fc ρ) λb=>if b=true then f ρ else g ρ
theorem gw{c:TT}{fc:Fn Bool}(hc:MT K C c fc)(h1:MS K C t f)(h2:MS K C u g):MS K C (Wj c t u) (jh fc f g):=by
 intro F H σ ρ D o R e P;refine hc.sW R e P λb F1 H1 hk uu=>?_;cases b with
 |true=>rw[Zag rfl] at hk ⊢;exact h1 F1 H1 σ ρ D o (R.up uu) hk (P.up uu.ff)
 |false=>rw[Zae (by decide)] at hk ⊢;exact h2 F1 H1 σ ρ D o (R.up uu) hk (P.up uu.ff)
structure ItR(K:PySem.W.Frag)(J:It)(F:Hp)(l:List PV):Prop where
 stop:∀ F' H',aP F F'->aP F' H'->J.stop l.length H'
 go:∀ i F' H',i<l.length->aP F F'->aP F' H'->J.go i H'
 yld:∀ i F' H' x H'',i<l.length->aP F F'->aP F' H'->J.yld i H' x H''->∃ F'' p,Up F' H' F'' H''/\l[i]?=some p/\Rep K F'' x p
def MI(K:PySem.W.Frag)(C:Cg)(wi:TI)(f:Fn (List PV)):Prop:=
 ∀ F H σ ρ R' r,RE K C.toCf F H σ ρ->f ρ=some r->Pr C F (λl=>∀ J F' H',Up F H F' H'->ItR K J F' l->R' J H') r->wi σ H R'
def loop(tg:PV->Rho->Option Rho)(body:Sn):List PV->Rho->Option Out
 |[],ρ=>some (.nx ρ)
 |x::xs,ρ=>match tg x ρ with
  |none=>none
  |some ρ1=>match body ρ1 with
   |some (.nx ρ2)=>loop tg body xs ρ2
   |some (.ct ρ2)=>loop tg body xs ρ2
   |some (.bk ρ2)=>some (.nx ρ2)
   |x=>x
def pO(it:Fn (List PV))(tg:PV->Rho->Option Rho)(body:Sn):Sn:=λρ=>fP (it ρ) λl=>loop tg body l ρ
theorem yM{J:It}{gt:TG}{tg:PV->Rho->Option Rho}{l:List PV}(hg:MG K C gt tg)(hb:MS K C t f)(hJ:ItR K J F l)(R:RE K C.toCf F H σ ρ)(e:loop tg f l ρ=some o)(P:PO' K C F D o):X6 J gt t D σ H:=by
 refine⟨λi m σ' H'=>∃ F' ρ',m=l.length-i/\i<=l.length/\aP F F'/\RE K C.toCf F' H' σ' ρ'/\loop tg f (l.drop i) ρ'=some o,⟨l.length,F,ρ,by simp,Zbb _,aP.refl _,R,by rw[Zbo];exact e⟩,?_⟩
 rintro i m σ' H' ⟨F',ρ',rfl,hi,s,R',e'⟩;by_cases hlt:i<l.length
 ·refine .inr ⟨hJ.go i F' H' hlt s R'.rb.sub,λσ2 H2=>∃ F2 ρ2,aP F F2/\RE K C.toCf F2 H2 σ2 ρ2/\loop tg f (l.drop (i+1)) ρ2=some o,λσ2 H2 ⟨F2,ρ2,s2,R2,e2⟩=>⟨l.length-(i+1),by omega,F2,ρ2,rfl,hlt,s2,R2,e2⟩,λx H'' y=>?_⟩
  obtain⟨F'',p,u,ep,rx⟩:=hJ.yld i F' H' x H'' hlt s R'.rb.sub y;have ed:l.drop i=p::l.drop (i+1):=by
   rw[ZaW hlt];rw[List.getElem?_eq_getElem hlt] at ep;rw[Zab ep]
  rw[ed,loop] at e';split at e'
  ·cases e'
  ·rename_i ρ1 h1;refine hg F'' H'' σ' ρ' x p ρ1 _ (R'.up u) rx h1 λσ1 R1=>?_;have sF:aP F F'':=s.trans u.ff;split at e'
   ·rename_i ρ2 h2;exact hb F'' H'' σ1 ρ1 _ _ R1 h2 λF3 H3 σ3 s3 R3=>⟨F3,ρ2,sF.trans s3,R3,e'⟩
   ·rename_i ρ2 h2;exact hb F'' H'' σ1 ρ1 _ _ R1 h2 λF3 H3 σ3 s3 R3=>⟨F3,ρ2,sF.trans s3,R3,e'⟩
   ·rename_i ρ2 h2;cases e';exact hb F'' H'' σ1 ρ1 _ _ R1 h2 λF3 H3 σ3 s3 R3=>P F3 H3 σ3 (sF.trans s3) R3
   ·rename_i n1 n2 n3;cases o with
    |nx ρ2=>exact absurd e' (n1 ρ2)
    |ct ρ2=>exact absurd e' (n2 ρ2)
    |bk ρ2=>exact absurd e' (n3 ρ2)
    |rt p=>exact hb F'' H'' σ1 ρ1 _ _ R1 e' (PO'.up (D:=D) P sF)
    |ro p=>exact hb F'' H'' σ1 ρ1 _ _ R1 e' (PO'.up (D:=D) P sF)
    |rd p=>exact hb F'' H'' σ1 ρ1 _ _ R1 e' (PO'.up (D:=D) P sF)
    |ex z=>exact hb F'' H'' σ1 ρ1 _ _ R1 e' (PX.up P sF)
 ·have ei:i=l.length:=by omega
  subst ei;rw[List.drop_length] at e';cases e';exact .inl ⟨hJ.stop F' H' s R'.rb.sub,P F' H' σ' s R'⟩
theorem ji{wi:TI}{it:Fn (List PV)}{gt:TG}{tg:PV->Rho->Option Rho}(hi:MI K C wi it)(hg:MG K C gt tg)(hb:MS K C t f):MS K C (Uq wi gt t) (pO it tg f):=by
 intro F H σ ρ D o R e P;rcases b7 e with⟨z,e1,rfl⟩|⟨l,e1,hk⟩
 ·exact hi F H σ ρ _ _ R e1 P
 ·exact hi F H σ ρ _ _ R e1 λJ F' H' u hJ=>yM hg hb hJ (R.up u) hk (P.up u.ff)
def j5(fc:Fn Bool)(body:Sn):Nat->Rho->Option Out
 |0,_=>none
 |n+1,ρ=>fP (fc ρ) λb=>if b=true then(match body ρ with
   |some (.nx ρ2)=>j5 fc body n ρ2
   |some (.ct ρ2)=>j5 fc body n ρ2
   |some (.bk ρ2)=>some (.nx ρ2)
   |x=>x) else some (.nx ρ)
theorem M4{c:TT}{fc:Fn Bool}(n:Nat)(hc:MT K C c fc)(hb:MS K C t f):MS K C (Gk c t) (j5 fc f n):=by
 intro F H σ ρ D o R e P;refine⟨λm σ' H'=>∃ F' ρ',aP F F'/\RE K C.toCf F' H' σ' ρ'/\j5 fc f m ρ'=some o,⟨n,F,ρ,aP.refl _,R,e⟩,?_⟩;rintro m σ' H' ⟨F',ρ',s,R',e'⟩;cases m with
 |zero=>cases e'
 |succ m=>
  refine hc.sW R' e' (P.up s) λb F1 H1 hk u=>?_;have sF:aP F F1:=s.trans u.ff;have R1:=R'.up u;cases b with
  |false=>
   rw[Zae (by decide)] at hk ⊢
   cases hk;exact P F1 H1 σ' sF R1
  |true=>
   rw[Zag rfl] at hk ⊢;refine⟨λσ2 H2=>∃ F2 ρ2,aP F F2/\RE K C.toCf F2 H2 σ2 ρ2/\j5 fc f m ρ2=some o,λσ2 H2 ⟨F2,ρ2,s2,R2,e2⟩=>⟨m,Nat.lt_succ_self _,F2,ρ2,s2,R2,e2⟩,?_⟩;split at hk
   ·rename_i ρ2 h2;exact hb F1 H1 σ' ρ' _ _ R1 h2 λF3 H3 σ3 s3 R3=>⟨F3,ρ2,sF.trans s3,R3,hk⟩
   ·rename_i ρ2 h2;exact hb F1 H1 σ' ρ' _ _ R1 h2 λF3 H3 σ3 s3 R3=>⟨F3,ρ2,sF.trans s3,R3,hk⟩
   ·rename_i ρ2 h2;cases hk;exact hb F1 H1 σ' ρ' _ _ R1 h2 λF3 H3 σ3 s3 R3=>P F3 H3 σ3 (sF.trans s3) R3
   ·rename_i n1 n2 n3;cases o with
    |nx ρ2=>exact absurd hk (n1 ρ2)
    |ct ρ2=>exact absurd hk (n2 ρ2)
    |bk ρ2=>exact absurd hk (n3 ρ2)
    |rt p=>exact hb F1 H1 σ' ρ' _ _ R1 hk (PO'.up (D:=D) P sF)
    |ro p=>exact hb F1 H1 σ' ρ' _ _ R1 hk (PO'.up (D:=D) P sF)
    |rd p=>exact hb F1 H1 σ' ρ' _ _ R1 hk (PO'.up (D:=D) P sF)
    |ex z=>exact hb F1 H1 σ' ρ' _ _ R1 hk (PX.up P sF)
end
def eqL(f:PV->PV->Option Bool):List PV->List PV->Option Bool
 |[],[]=>some true
 |[],_::_=>some false
 |_::_,[]=>some false
 |x::xs,y::ys=>match f x y,eqL f xs ys with
  |some a,some b=>some (a&&b)
  |_,_=>none
def eqF:Nat->PV->PV->Option Bool
 |_,.non,.non=>some true
 |_,.non,.bl _=>some false
 |_,.non,.int _=>some false
 |_,.non,.str _=>some false
 |_,.bl _,.non=>some false
 |_,.bl a,.bl b=>some (decide (a=b))
 |_,.bl _,.str _=>some false
 |_,.int _,.non=>some false
 |_,.int a,.int b=>some (decide (a=b))
 |_,.int _,.str _=>some false
 |_,.str _,.non=>some false
 |_,.str _,.bl _=>some false
 |_,.str _,.int _=>some false
 |_,.str a,.str b=>some (decide (a=b))
 |_,.non,.tup _=>some false
 |_,.tup _,.non=>some false
 |_,.non,.lst _=>some false
 |_,.lst _,.non=>some false
 |_,.int _,.tup _=>some false
 |_,.tup _,.int _=>some false
 |_,.str _,.tup _=>some false
 |_,.tup _,.str _=>some false
 |_,.int _,.lst _=>some false
 |_,.lst _,.int _=>some false
 |_,.str _,.lst _=>some false
 |_,.lst _,.str _=>some false
 |_,.lst _,.tup _=>some false
 |_,.tup _,.lst _=>some false
 |n+1,.tup l,.tup m=>eqL (eqF n) l m
 |n+1,.lst l,.lst m=>if l.length=m.length then eqL (eqF n) l m else some false
 |_,_,_=>none
theorem mR{f:PV->PV->Option Bool}(h:∀ p r,f p p=some r->r=true):∀ {l:List PV}{r:Bool},eqL f l l=some r->r=true
 |[],r,e=>by cases e;rfl
 |x::xs,r,e=>by
  rw[eqL] at e;split at e
  ·rename_i a b h1 h2;cases e;rw[h x a h1,mR h h2];rfl
  ·cases e
theorem Dh:∀ (n:Nat) (p:PV) (r:Bool),eqF n p p=some r->r=true
 |n,p,r,e=>by
  induction n generalizing p r with
  |zero=>cases p<;>first|(cases (show some true=some r from e);rfl)|(cases (show some (decide _)=some r from e);exact ZaB rfl)|cases (show none=some r from e)
  |succ n ih=>
   cases p with
   |tup l=>exact mR ih e
   |lst l=>
    have e:(if l.length=l.length then eqL (eqF n) l l else some false)=some r:=e;rw[Zag rfl] at e;exact mR ih e
   |_=>first|(cases (show some true=some r from e);rfl)|(cases (show some (decide _)=some r from e);exact ZaB rfl)|cases (show none=some r from e)
theorem Ai{f:PV->PV->Option Bool}:∀ {l m:List PV}{r:Bool},eqL f l m=some r->∃ e:Nat->Bool,(∀ (j:Nat) x y,l[j]?=some x->m[j]?=some y->f x y=some (e j))/\r=((List.range (min l.length m.length)).all e&&l.length==m.length)
 |[],[],r,h=>⟨λ_=>true,λj x y a=>by simp at a,by cases h;rfl⟩
 |[],_::_,r,h=>⟨λ_=>true,λj x y a=>by simp at a,by cases h;simp⟩
 |_::_,[],r,h=>⟨λ_=>true,λj x y _ a=>by simp at a,by cases h;simp⟩
 |x::xs,y::ys,r,h=>by
  rw[eqL] at h;split at h
  ·rename_i a b h1 h2;cases h;obtain⟨e,e1,e2⟩:=Ai h2;refine⟨λj=>match j with|0=>a|j+1=>e j,λj x' y' a' b'=>?_,?_⟩
   ·cases j with
    |zero=>simp at a' b';subst a' b';exact h1
    |succ j=>exact e1 j x' y' (by simpa using a') (by simpa using b')
   ·rw[e2,Zaz,Zaz,Nat.succ_min_succ,List.range_succ_eq_map,List.all_cons,List.all_map];have:((xs.length+1==ys.length+1):Bool)=(xs.length==ys.length):=by
     rw[Bool.eq_iff_iff];simp
    rw[this];cases a<;>simp[Function.comp_def]
  ·cases h
section
variable{X:Cx}{pins:List (Addr×Obj)}{σ:St}{H:Hp}{s:Shared}
theorem Rep.kinds(I:Inv X pins σ H s){a:Addr}{xs ys:List V}(h1:SqL X.K H a xs)(h2:SqT X.K H a ys):False:=by
 obtain⟨_,_,p1,_⟩:=I.list h1;obtain⟨_,_,p2,_⟩:=I.tuple h2;obtain⟨o,n,e,c,_⟩:=p1;obtain⟨o',e',c',_⟩:=p2;rw[e] at e';cases e';rw[c] at c';exact absurd c' (by decide)
theorem Di{xs:List V}{l m:List PV}(h1:xs.length=l.length)(h2:xs.length=m.length)(h:∀ (j:Nat) x p q,xs[j]?=some x->l[j]?=some p->m[j]?=some q->p=q):l=m:=by
 apply ZbA
 intro j;by_cases hj:j<xs.length
 ·have hl:j<l.length:=by lia
  have hm:j<m.length:=by lia
  rw[List.getElem?_eq_getElem hl,List.getElem?_eq_getElem hm,h j xs[j] l[j] m[j] (by simp[hj]) (by simp[hl]) (by simp[hm])]
 ·rw[ZaL (by lia),ZaL (by lia)]
def HO.isDict:HO->Bool
 |.dK _=>true
 |.dT _=>true
 |_=>false
theorem QZ{H:Hp}{a:Addr}{u v:HO}(hu:HO.isDict u=true)(hv:HO.isDict v=true)(h:Rd H a u)(h':Rd H a v):u=v:=by
 rcases h with h|⟨o,h⟩<;>rcases h' with h'|⟨o',h'⟩<;>rw[h] at h'<;>cases h'
 ·rfl
 ·cases hu
 ·cases hv
 ·rfl
theorem Aj{H:Hp}{a:Addr}{u v:HO}(h:Rd H a u)(h':Rd H a v)(hu:HO.isDict u=true:=by rfl)(hv:HO.isDict v=true:=by rfl):u=v:=QZ hu hv h h'
theorem Rep.noDict(I:Inv X pins σ H s){a:Addr}{ks:List (Key×V)}{ts:List (List Key×V)}(h1:Rd H a (.dK ks)\/Rd H a (.dT ts))(h2:(∃ xs,SqL X.K H a xs)\/∃ xs,SqT X.K H a xs):False:=by
 have d:∃ o es ep,s.heap.get? a=some o/\o.data=.dict es ep:=by
  rcases h1 with h1|h1
  ·obtain⟨_,_,_,_,o,es,ep,e,x,d,_⟩:=h1.ok I.hok;exact⟨o,es,ep,e,d⟩
  ·obtain⟨_,_,_,_,o,es,ep,e,x,d,_⟩:=h1.ok I.hok;exact⟨o,es,ep,e,d⟩
 obtain⟨o,es,ep,e,d⟩:=d;rcases h2 with⟨xs,h2⟩|⟨xs,h2⟩
 ·obtain⟨_,_,p1,_⟩:=I.list h2;obtain⟨o',n,e',_,_,d'⟩:=p1;rw[e] at e';cases e';rw[d] at d';cases d'
 ·obtain⟨_,_,p1,_⟩:=I.tuple h2;obtain⟨o',e',_,n,d'⟩:=p1;rw[e] at e';cases e';rw[d] at d';cases d'
theorem XO.at(I:Inv X pins σ H s){a C:Addr}{d:Option Addr}(h:H a=some (XO a C d)):∃ vs:Array Value,s.heap.get? a=some { cls:=.ref C,dict:=d,data:=.fields vs }:=(I.hok _ _ h).1
theorem XO.inj(I:Inv X pins σ H s){a C C':Addr}{d d':Option Addr}(h:H a=some (XO a C d))(h':H a=some (XO a C' d')):C=C'/\d=d':=by
 obtain⟨vs,e⟩:=XO.at I h;obtain⟨vs',e'⟩:=XO.at I h';rw[e] at e';cases e';exact⟨rfl,rfl⟩
theorem XO.noSeq(I:Inv X pins σ H s){a C:Addr}{d:Option Addr}(h:H a=some (XO a C d))(h2:(∃ xs,SqL X.K H a xs)\/∃ xs,SqT X.K H a xs):False:=by
 obtain⟨vs,e⟩:=XO.at I h;rcases h2 with⟨xs,h2⟩|⟨xs,h2⟩
 ·obtain⟨_,_,p1,_⟩:=I.list h2;obtain⟨o',n,e',_,_,d'⟩:=p1;rw[e] at e';cases e';cases d'
 ·obtain⟨_,_,p1,_⟩:=I.tuple h2;obtain⟨o',e',_,n,d'⟩:=p1;rw[e] at e';cases e';cases d'
theorem XNm.inj{K:PySem.W.Frag}{C:Addr}{c c':Str}(a:XNm K C c)(b:XNm K C c'):c=c':=by
 obtain⟨cd,h1,h2⟩:=a.cl;obtain⟨cd',h1',h2'⟩:=b.cl;rw[h1] at h1';cases h1';exact h2.symm.trans h2'
theorem Rep.inj(I:Inv X pins σ H s){x:V}{p:PV}(h:Rep X.K H x p):∀ {q:PV},Rep X.K H x q->p=q:=by
 have pairs:∀ {κ:Type}{xs:List (κ×V)}{l m:List (κ×PV)},xs.map (·.1)=l.map (·.1)->xs.map (·.1)=m.map (·.1)->(∀ (j:Nat) x p q,xs[j]?=some x->l[j]?=some p->m[j]?=some q->p.2=q.2)->l=m:=by
  intro κ xs l m h1 h2 h3;have l1:xs.length=l.length:=by simpa using Zbd List.length h1
  have l2:xs.length=m.length:=by simpa using Zbd List.length h2
  apply ZbA
  intro j;by_cases hj:j<xs.length
  ·have hl:j<l.length:=by lia
   have hm:j<m.length:=by lia
   rw[List.getElem?_eq_getElem hl,List.getElem?_eq_getElem hm];have k:=Zbd (·[j]?) (h1.symm.trans h2);simp[hl,hm] at k;have v:=h3 j xs[j] l[j] m[j] (by simp[hj]) (by simp[hl]) (by simp[hm])
   rw[Prod.ext k v]
  ·rw[ZaL (by lia),ZaL (by lia)]
 induction h with
 |non=>intro q h';cases h';rfl
 |bl=>intro q h';cases h';rfl
 |int=>intro q h';cases h';rfl
 |str=>intro q h';cases h';rfl
 |ty=>intro q h';cases h';rfl
 |@tup a xs l h hl _ ih=>
  intro q h';have h:=SqT.of (K:=X.K) h;cases h' with
  |tup h2 hl2 hr2=>
   cases I.yt h (SqT.of (K:=X.K) h2);rw[Di hl hl2 λj x p q e1 e2 e3=>ih j x p e1 e2 (hr2 j x q e1 e3)]
  |lst h2=>exact(Rep.kinds I h2 h).elim
  |dk h2=>exact(Rep.noDict I (ts:=[]) (.inl h2) (.inr ⟨_,h⟩)).elim
  |dt h2=>exact(Rep.noDict I (ks:=[]) (.inr h2) (.inr ⟨_,h⟩)).elim
  |exc _ h2=>exact(XO.noSeq I h2 (.inr ⟨_,h⟩)).elim
  |exc0 _ h2=>exact(XO.noSeq I h2 (.inr ⟨_,h⟩)).elim
 |@lst a xs l h hl _ ih=>
  intro q h';cases h' with
  |tup h2=>exact(Rep.kinds I h (SqT.of h2)).elim
  |lst h2 hl2 hr2=>
   cases I.mH h h2;rw[Di hl hl2 λj x p q e1 e2 e3=>ih j x p e1 e2 (hr2 j x q e1 e3)]
  |dk h2=>exact(Rep.noDict I (ts:=[]) (.inl h2) (.inl ⟨_,h⟩)).elim
  |dt h2=>exact(Rep.noDict I (ks:=[]) (.inr h2) (.inl ⟨_,h⟩)).elim
  |exc _ h2=>exact(XO.noSeq I h2 (.inl ⟨_,h⟩)).elim
  |exc0 _ h2=>exact(XO.noSeq I h2 (.inl ⟨_,h⟩)).elim
 |@dk a xs l h hl _ ih=>
  intro q h';cases h' with
  |tup h2=>exact(Rep.noDict I (ts:=[]) (.inl h) (.inr ⟨_,SqT.of h2⟩)).elim
  |lst h2=>exact(Rep.noDict I (ts:=[]) (.inl h) (.inl ⟨_,h2⟩)).elim
  |dk h2 hl2 hr2=>
   cases (Aj h h2);rw[pairs hl hl2 λj x p q e1 e2 e3=>ih j x p e1 e2 (hr2 j x q e1 e3)]
  |dt h2=>cases Aj h h2
  |exc _ h2=>rcases h with h|⟨o,h⟩<;>rw[h] at h2<;>cases h2
  |exc0 _ h2=>rcases h with h|⟨o,h⟩<;>rw[h] at h2<;>cases h2
 |@dt a xs l h hl _ ih=>
  intro q h';cases h' with
  |tup h2=>exact(Rep.noDict I (ks:=[]) (.inr h) (.inr ⟨_,SqT.of h2⟩)).elim
  |lst h2=>exact(Rep.noDict I (ks:=[]) (.inr h) (.inl ⟨_,h2⟩)).elim
  |dk h2=>cases Aj h h2
  |dt h2 hl2 hr2=>
   cases (Aj h h2);rw[pairs hl hl2 λj x p q e1 e2 e3=>ih j x p e1 e2 (hr2 j x q e1 e3)]
  |exc _ h2=>rcases h with h|⟨o,h⟩<;>rw[h] at h2<;>cases h2
  |exc0 _ h2=>rcases h with h|⟨o,h⟩<;>rw[h] at h2<;>cases h2
 |@exc a C dx c xs l nm h hd hl _ ih=>
  intro q h';cases h' with
  |tup h2=>exact(XO.noSeq I h (.inr ⟨_,SqT.of h2⟩)).elim
  |lst h2=>exact(XO.noSeq I h (.inl ⟨_,h2⟩)).elim
  |dk h2=>rcases h2 with h2|⟨o,h2⟩<;>rw[h] at h2<;>cases h2
  |dt h2=>rcases h2 with h2|⟨o,h2⟩<;>rw[h] at h2<;>cases h2
  |exc nm2 h2 hd2 hl2 hr2=>
   obtain⟨rfl,e⟩:=XO.inj I h h2;cases e;rw[hd] at hd2;cases hd2;cases XNm.inj nm nm2;rw[pairs hl hl2 λj x p q e1 e2 e3=>ih j x p e1 e2 (hr2 j x q e1 e3)]
  |exc0 nm2 h2=>cases (XO.inj I h h2).2
 |@exc0 a C c nm h=>
  intro q h';cases h' with
  |tup h2=>exact(XO.noSeq I h (.inr ⟨_,SqT.of h2⟩)).elim
  |lst h2=>exact(XO.noSeq I h (.inl ⟨_,h2⟩)).elim
  |dk h2=>rcases h2 with h2|⟨o,h2⟩<;>rw[h] at h2<;>cases h2
  |dt h2=>rcases h2 with h2|⟨o,h2⟩<;>rw[h] at h2<;>cases h2
  |exc nm2 h2=>cases (XO.inj I h h2).2
  |exc0 nm2 h2=>
   obtain⟨rfl,_⟩:=XO.inj I h h2;cases XNm.inj nm nm2;rfl
theorem M5(I:Inv X pins σ H s):∀ {A:Around}{x y:V}{p q:PV}{r:Bool}{u v:Value},A.units<cLine->eqF 0 p q=some r->Rep X.K H x p->Rep X.K H y q->RelV x u->RelV y v ->
  SeqAt.RcAt A s u v r/\SeqAt.EqAt A s u v r/\SeqAt.RcNeAt A s u v (!r):=by
 intro A x y p q r u v hu e rx ry ru rv;have hu0:A.units<cLine:=hu
 match p,q,e with
 |.non,.non,e=>
  have e:=Zab e;subst e;cases Rep.dH rx;cases Rep.dH ry;cases ru;cases rv;exact⟨SeqAt.RcAt.none_none,SeqAt.EqAt.same _,SeqAt.RcNeAt.none_none⟩
 |.non,.bl b,e=>
  have e:=Zab e;subst e;cases Rep.dH rx;cases Rep.mO ry;cases ru;cases rv;exact⟨SeqAt.RcAt.none_bool _,SeqAt.EqAt.none_bool _,SeqAt.RcNeAt.none_bool _⟩
 |.non,.int b,e=>
  have e:=Zab e;subst e;cases Rep.dH rx;cases Rep.aY ry;cases ru;obtain⟨tb,rfl⟩:=rv;exact⟨SeqAt.RcAt.none_int _ _,SeqAt.EqAt.none_int _ _,SeqAt.RcNeAt.none_int _ _⟩
 |.non,.str b,e=>
  have e:=Zab e;subst e;cases Rep.dH rx;cases Rep.bN ry;cases ru;obtain⟨tb,rfl⟩:=rv;exact⟨SeqAt.RcAt.none_str _ _,SeqAt.EqAt.none_str _ _,SeqAt.RcNeAt.none_str _ _⟩
 |.bl a,.non,e=>
  have e:=Zab e;subst e;cases Rep.mO rx;cases Rep.dH ry;cases ru;cases rv;exact⟨SeqAt.RcAt.bool_none _,SeqAt.EqAt.bool_none _,SeqAt.RcNeAt.bool_none _⟩
 |.bl a,.bl b,e=>
  have e:=Zab e;subst e;cases Rep.mO rx;cases Rep.mO ry;cases ru;cases rv;rw[<-Bool.beq_eq_decide_eq];exact⟨SeqAt.RcAt.bool_bool _ _,SeqAt.EqAt.bool_bool _ _,SeqAt.RcNeAt.bool_bool _ _⟩
 |.bl a,.str b,e=>
  have e:=Zab e;subst e;cases Rep.mO rx;cases Rep.bN ry;cases ru;obtain⟨tb,rfl⟩:=rv;exact⟨SeqAt.RcAt.bool_str _ _ _,SeqAt.EqAt.bool_str _ _ _,SeqAt.RcNeAt.bool_str _ _ _⟩
 |.int a,.non,e=>
  have e:=Zab e;subst e;cases Rep.aY rx;cases Rep.dH ry;obtain⟨ta,rfl⟩:=ru;cases rv;exact⟨SeqAt.RcAt.int_none _ _,SeqAt.EqAt.int_none _ _,SeqAt.RcNeAt.int_none _ _⟩
 |.int a,.int b,e=>
  have e:=Zab e;subst e;cases Rep.aY rx;cases Rep.aY ry;obtain⟨ta,rfl⟩:=ru;obtain⟨tb,rfl⟩:=rv;rw[<-Bool.beq_eq_decide_eq];exact⟨SeqAt.RcAt.int_int _ _ _ _,SeqAt.EqAt.int_int _ _ _ _,SeqAt.RcNeAt.int_int _ _ _ _⟩
 |.int a,.str b,e=>
  have e:=Zab e;subst e;cases Rep.aY rx;cases Rep.bN ry;obtain⟨ta,rfl⟩:=ru;obtain⟨tb,rfl⟩:=rv;exact⟨SeqAt.RcAt.int_str _ _ _ _,SeqAt.EqAt.int_str _ _ _ _,SeqAt.RcNeAt.int_str _ _ _ _⟩
 |.str a,.non,e=>
  have e:=Zab e;subst e;cases Rep.bN rx;cases Rep.dH ry;obtain⟨ta,rfl⟩:=ru;cases rv;exact⟨SeqAt.RcAt.str_none _ _,SeqAt.EqAt.str_none _ _,SeqAt.RcNeAt.str_none _ _⟩
 |.str a,.bl b,e=>
  have e:=Zab e;subst e;cases Rep.bN rx;cases Rep.mO ry;obtain⟨ta,rfl⟩:=ru;cases rv;exact⟨SeqAt.RcAt.str_bool _ _ _,SeqAt.EqAt.str_bool _ _ _,SeqAt.RcNeAt.str_bool _ _ _⟩
 |.str a,.int b,e=>
  have e:=Zab e;subst e;cases Rep.bN rx;cases Rep.aY ry;obtain⟨ta,rfl⟩:=ru;obtain⟨tb,rfl⟩:=rv;exact⟨SeqAt.RcAt.str_int _ _ _ _,SeqAt.EqAt.str_int _ _ _ _,SeqAt.RcNeAt.str_int _ _ _ _⟩
 |.str a,.str b,e=>
  have e:=Zab e;subst e;cases Rep.bN rx;cases Rep.bN ry;obtain⟨ta,rfl⟩:=ru;obtain⟨tb,rfl⟩:=rv;rw[<-Bool.beq_eq_decide_eq];exact⟨SeqAt.RcAt.str_str _ _ _ _,SeqAt.EqAt.str_str _ _ _ _,SeqAt.RcNeAt.str_str _ _ _ _⟩
 |.tup a,.non,e=>
  have e:=Zab e;subst e;obtain⟨aa,xsa,rfl,ha,_⟩:=rx.cN;cases ru;obtain⟨_,_,pa,_⟩:=I.tuple ha;cases Rep.dH ry;cases rv;exact⟨SeqAt.RcAt.tuple_none pa hu0,SeqAt.EqAt.tuple_none pa hu0,SeqAt.RcNeAt.tuple_none pa hu0⟩
 |.non,.tup b,e=>
  have e:=Zab e;subst e;cases Rep.dH rx;cases ru;obtain⟨ab,xsb,rfl,hb,_⟩:=ry.cN;cases rv;obtain⟨_,_,pb,_⟩:=I.tuple hb;exact⟨SeqAt.RcAt.none_tuple pb hu0,SeqAt.EqAt.none_tuple pb hu0,SeqAt.RcNeAt.none_tuple pb hu0⟩
 |.tup a,.int b,e=>
  have e:=Zab e;subst e;obtain⟨aa,xsa,rfl,ha,_⟩:=rx.cN;cases ru;obtain⟨_,_,pa,_⟩:=I.tuple ha;cases Rep.aY ry;obtain⟨tb,rfl⟩:=rv;exact⟨SeqAt.RcAt.tuple_int _ _ pa hu0,SeqAt.EqAt.tuple_int _ _ pa hu0,SeqAt.RcNeAt.tuple_int _ _ pa hu0⟩
 |.int a,.tup b,e=>
  have e:=Zab e;subst e;cases Rep.aY rx;obtain⟨ta,rfl⟩:=ru;obtain⟨ab,xsb,rfl,hb,_⟩:=ry.cN;cases rv;obtain⟨_,_,pb,_⟩:=I.tuple hb;exact⟨SeqAt.RcAt.int_tuple _ _ pb hu0,SeqAt.EqAt.int_tuple _ _ pb hu0,SeqAt.RcNeAt.int_tuple _ _ pb hu0⟩
 |.tup a,.str b,e=>
  have e:=Zab e;subst e;obtain⟨aa,xsa,rfl,ha,_⟩:=rx.cN;cases ru;obtain⟨_,_,pa,_⟩:=I.tuple ha;cases Rep.bN ry;obtain⟨tb,rfl⟩:=rv;exact⟨SeqAt.RcAt.tuple_str _ _ pa hu0,SeqAt.EqAt.tuple_str _ _ pa hu0,SeqAt.RcNeAt.tuple_str _ _ pa hu0⟩
 |.str a,.tup b,e=>
  have e:=Zab e;subst e;cases Rep.bN rx;obtain⟨ta,rfl⟩:=ru;obtain⟨ab,xsb,rfl,hb,_⟩:=ry.cN;cases rv;obtain⟨_,_,pb,_⟩:=I.tuple hb;exact⟨SeqAt.RcAt.str_tuple _ _ pb hu0,SeqAt.EqAt.str_tuple _ _ pb hu0,SeqAt.RcNeAt.str_tuple _ _ pb hu0⟩
 |.lst a,.non,e=>
  have e:=Zab e;subst e;obtain⟨aa,xsa,rfl,ha,_⟩:=rx.bZ;cases ru;obtain⟨_,_,pa,_⟩:=I.list ha;cases Rep.dH ry;cases rv;exact⟨SeqAt.RcAt.list_none pa.isList hu0,SeqAt.EqAt.list_none pa.isList hu0,SeqAt.RcNeAt.list_none pa.isList hu0⟩
 |.non,.lst b,e=>
  have e:=Zab e;subst e;cases Rep.dH rx;cases ru;obtain⟨ab,xsb,rfl,hb,_⟩:=ry.bZ;cases rv;obtain⟨_,_,pb,_⟩:=I.list hb;exact⟨SeqAt.RcAt.none_list pb.isList hu0,SeqAt.EqAt.none_list pb.isList hu0,SeqAt.RcNeAt.none_list pb.isList hu0⟩
 |.lst a,.int b,e=>
  have e:=Zab e;subst e;obtain⟨aa,xsa,rfl,ha,_⟩:=rx.bZ;cases ru;obtain⟨_,_,pa,_⟩:=I.list ha;cases Rep.aY ry;obtain⟨tb,rfl⟩:=rv;exact⟨SeqAt.RcAt.list_int _ _ pa.isList hu0,SeqAt.EqAt.list_int _ _ pa.isList hu0,SeqAt.RcNeAt.list_int _ _ pa.isList hu0⟩
 |.int a,.lst b,e=>
  have e:=Zab e;subst e;cases Rep.aY rx;obtain⟨ta,rfl⟩:=ru;obtain⟨ab,xsb,rfl,hb,_⟩:=ry.bZ;cases rv;obtain⟨_,_,pb,_⟩:=I.list hb;exact⟨SeqAt.RcAt.int_list _ _ pb.isList hu0,SeqAt.EqAt.int_list _ _ pb.isList hu0,SeqAt.RcNeAt.int_list _ _ pb.isList hu0⟩
 |.lst a,.str b,e=>
  have e:=Zab e;subst e;obtain⟨aa,xsa,rfl,ha,_⟩:=rx.bZ;cases ru;obtain⟨_,_,pa,_⟩:=I.list ha;cases Rep.bN ry;obtain⟨tb,rfl⟩:=rv;exact⟨SeqAt.RcAt.list_str _ _ pa.isList hu0,SeqAt.EqAt.list_str _ _ pa.isList hu0,SeqAt.RcNeAt.list_str _ _ pa.isList hu0⟩
 |.str a,.lst b,e=>
  have e:=Zab e;subst e;cases Rep.bN rx;obtain⟨ta,rfl⟩:=ru;obtain⟨ab,xsb,rfl,hb,_⟩:=ry.bZ;cases rv;obtain⟨_,_,pb,_⟩:=I.list hb;exact⟨SeqAt.RcAt.str_list _ _ pb.isList hu0,SeqAt.EqAt.str_list _ _ pb.isList hu0,SeqAt.RcNeAt.str_list _ _ pb.isList hu0⟩
 |.lst a,.tup b,e=>
  have e:=Zab e;subst e;obtain⟨aa,xsa,rfl,ha,_⟩:=rx.bZ;cases ru;obtain⟨_,_,pa,_⟩:=I.list ha;obtain⟨ab,xsb,rfl,hb,_⟩:=ry.cN;cases rv;obtain⟨_,_,pb,_⟩:=I.tuple hb;exact⟨SeqAt.RcAt.list_tuple pa.isList pb hu0,SeqAt.EqAt.list_tuple pa.isList pb hu0,SeqAt.RcNeAt.list_tuple pa.isList pb hu0⟩
 |.tup a,.lst b,e=>
  have e:=Zab e;subst e;obtain⟨aa,xsa,rfl,ha,_⟩:=rx.cN;cases ru;obtain⟨_,_,pa,_⟩:=I.tuple ha;obtain⟨ab,xsb,rfl,hb,_⟩:=ry.bZ;cases rv;obtain⟨_,_,pb,_⟩:=I.list hb;exact⟨SeqAt.RcAt.tuple_list pa pb.isList hu0,SeqAt.EqAt.tuple_list pa pb.isList hu0,SeqAt.RcNeAt.tuple_list pa pb.isList hu0⟩
def M6:PV->PV->Bool
 |.tup _,.tup _=>true
 |.lst _,.lst _=>true
 |_,_=>false
theorem M7{n:Nat}{p q:PV}(h:M6 p q=false):eqF (n+1) p q=eqF 0 p q:=by
 cases p<;>cases q<;>first|rfl|cases h
theorem Ko:∀ {p q:PV},M6 p q=true->(∃ l m,p=.tup l/\q=.tup m)\/∃ l m,p=.lst l/\q=.lst m
 |.tup l,q,h=>by
  cases q with
  |tup m=>exact .inl ⟨l,m,rfl,rfl⟩
  |_=>cases h
 |.lst l,q,h=>by
  cases q with
  |lst m=>exact .inr ⟨l,m,rfl,rfl⟩
  |_=>cases h
theorem Tr(I:Inv X pins σ H s):∀ (n:Nat) {A:Around}{x y:V}{p q:PV}{r:Bool}{u v:Value},A.units+n<cLine->eqF n p q=some r->Rep X.K H x p->Rep X.K H y q->RelV x u->RelV y v ->
  SeqAt.RcAt A s u v r/\SeqAt.EqAt A s u v r/\SeqAt.RcNeAt A s u v (!r):=by
 intro n;induction n with
 |zero=>exact λhu e=>M5 I (by lia) e
 |succ n ih=>
  intro A x y p q r u v hu e rx ry ru rv;have hu0:A.units<cLine:=by lia
  cases hr:M6 p q with
  |false=>exact M5 I hu0 (by rw[<-M7 hr];exact e) rx ry ru rv
  |true=>
  rcases Ko hr with⟨l,m,rfl,rfl⟩|⟨l,m,rfl,rfl⟩
  ·have e:eqL (eqF n) l m=some r:=e;obtain⟨a,xs,rfl,ha,r1⟩:=rx.cN;obtain⟨b,ys,rfl,hb,r2⟩:=ry.cN;cases ru;cases rv;obtain⟨i1,v1,t1,_⟩:=I.tuple ha;obtain⟨i2,v2,t2,_⟩:=I.tuple hb;obtain⟨g,g1,g2⟩:=Ai e;have hj:∀ j (h1:j<i1.toArray.size) (h2:j<i2.toArray.size),SeqAt.EqAt A.in1 s i1.toArray[j] i2.toArray[j] (g j):=λj h1 h2=>by
    obtain⟨x,hx,rx'⟩:=qD v1 h1;obtain⟨y,hy,ry'⟩:=qD v2 h2;obtain⟨p',hp,rp⟩:=r1.got hx;obtain⟨q',hq,rq⟩:=r2.got hy;exact(ih (A:=A.in1) (show A.units+1+n<cLine by lia) (g1 j p' q' hp hq) rp rq rx' ry').2.1
   have rc:=SeqAt.RcAt.tuples (A:=A) (e:=g) t1 t2 hu0 hj;have rn:=SeqAt.RcNeAt.tuples (A:=A) (e:=g) t1 t2 hu0 hj;rw[List.size_toArray,List.size_toArray,<-v1.length,<-v2.length,r1.1,r2.1,<-g2] at rc rn;refine⟨rc,?_,rn⟩;by_cases hab:a=b
   ·subst hab;have epq:PV.tup l=PV.tup m:=Rep.inj I rx ry;cases epq;have er:=mR (Dh n) e;subst er;exact SeqAt.EqAt.same _
   ·exact .of_refs hab rc
  ·obtain⟨a,xs,rfl,ha,r1⟩:=rx.bZ;obtain⟨b,ys,rfl,hb,r2⟩:=ry.bZ;cases ru;cases rv;obtain⟨i1,v1,t1,_⟩:=I.list ha;obtain⟨i2,v2,t2,_⟩:=I.list hb;have e:(if l.length=m.length then eqL (eqF n) l m else some false)=some r:=e;split at e
   ·rename_i hlm;obtain⟨g,g1,g2⟩:=Ai e;have hz:i1.toArray.size=i2.toArray.size:=by rw[List.size_toArray,List.size_toArray,<-v1.length,<-v2.length,r1.1,r2.1];exact hlm
    have hj:∀ j (h1:j<i1.toArray.size) (h2:j<i2.toArray.size),SeqAt.EqAt A.in1 s i1.toArray[j] i2.toArray[j] (g j):=λj h1 h2=>by
     obtain⟨x,hx,rx'⟩:=qD v1 h1;obtain⟨y,hy,ry'⟩:=qD v2 h2;obtain⟨p',hp,rp⟩:=r1.got hx;obtain⟨q',hq,rq⟩:=r2.got hy;exact(ih (A:=A.in1) (show A.units+1+n<cLine by lia) (g1 j p' q' hp hq) rp rq rx' ry').2.1
    have rc:=SeqAt.RcAt.lists (A:=A) (e:=g) t1.isList t2.isList hz hu0 hj;have e2:r=(List.range l.length).all g:=by rw[g2,<-hlm,Nat.min_self,beq_self_eq_true,Bool.and_true]
    have rn:=SeqAt.RcNeAt.lists (A:=A) (e:=g) t1.isList t2.isList hz hu0 hj;rw[List.size_toArray,<-v1.length,r1.1,<-e2] at rc rn;refine⟨rc,?_,rn⟩;by_cases hab:a=b
    ·subst hab;have epq:PV.lst l=PV.lst m:=Rep.inj I rx ry;cases epq;have er:=mR (Dh n) e;subst er;exact SeqAt.EqAt.same _
    ·exact .of_refs hab rc
   ·rename_i hlm;cases e;have hz:(i1.toArray.size != i2.toArray.size)=true:=by rw[List.size_toArray,List.size_toArray,<-v1.length,<-v2.length,r1.1,r2.1];simpa using hlm
    have rc:=SeqAt.RcAt.lists_lengths (A:=A) t1.isList t2.isList hz hu0;have hab:a≠b:=λz=>by
     subst z;have epq:PV.lst l=PV.lst m:=Rep.inj I rx ry;cases epq;exact hlm rfl
    exact⟨rc,.of_refs hab rc,SeqAt.RcNeAt.lists_lengths (A:=A) t1.isList t2.isList hz hu0⟩
end
section
variable{X:Cx}{k:Nat}
theorem OpR.or{f:Value->Value->Sem Value}{r r':R2}(h:OpR X f r)(h':OpR X f r'):OpR X f (λx y H Q=>r x y H Q\/r' x y H Q):=by
 intro pins s σ H x y v u Q I rx ry q;rcases q with q|q
 ·exact h pins s σ H x y v u Q I rx ry q
 ·exact h' pins s σ H x y v u Q I rx ry q
def WD(K:PySem.W.Frag):R2:=λx y H Q=>∃ p q r,Rep K H x p/\Rep K H y q/\eqF 32 p q=some r/\Q (.bl r) H
theorem kY(hr:dw k X.A):OpR X (compareOp .Eq) (WD X.K):=by
 intro pins s σ H x y v u Q I rx ry h;obtain⟨p,q,r,h1,h2,e,h3⟩:=h;exact(Tr I 32 (Mr hr) e h1 h2 rx ry).1 X.prog X.w X.xe _ ⟨.bl r,H,I,rfl,h3⟩
def inF(p:PV):List PV->Option Bool
 |[]=>some false
 |x::xs=>match eqF 31 x p,inF p xs with
  |some a,some b=>some (a||b)
  |_,_=>none
theorem Im{p:PV}:∀ {l:List PV}{r:Bool},inF p l=some r->∃ e:Nat->Bool,(∀ (j:Nat) x,l[j]?=some x->eqF 31 x p=some (e j))/\r=(List.range l.length).any e
 |[],r,h=>⟨λ_=>true,λj x a=>by simp at a,by cases h;rfl⟩
 |x::xs,r,h=>by
  rw[inF] at h;split at h
  ·rename_i a b h1 h2;cases h;obtain⟨e,e1,e2⟩:=Im h2;refine⟨λj=>match j with|0=>a|j+1=>e j,λj x' a'=>?_,?_⟩
   ·cases j with
    |zero=>simp at a';subst a';exact h1
    |succ j=>exact e1 j x' (by simpa using a')
   ·rw[e2,Zaz,List.range_succ_eq_map,Zb1,List.any_map];rfl
  ·cases h
def WF(K:PySem.W.Frag)(neg:Bool):R2:=λx y H Q=>∃ p l r,Rep K H x p/\(Rep K H y (.lst l)\/Rep K H y (.tup l))/\inF p l=some r/\Q (.bl (if neg=true then !r else r)) H
theorem Dj{pins:List (Addr×Obj)}{σ:St}{H:Hp}{s:Shared}(I:Inv X pins σ H s)(hr:dw k X.A){x:V}{v:Value}{p:PV}{xs:List V}{its:List Value}{l:List PV}{r:Bool}(rx:RelV x v)(h1:Rep X.K H x p)(rv:Vals xs its)(hl:bh X.K H xs l)(e:inF p l=some r) :
  ∃ f:Value->Bool,(∀ y,y∈its.toArray->SeqAt.EqAt X.A.in1 s y v (f y))/\its.toArray.any f=r:=by
 obtain⟨g,g1,g2⟩:=Im e;have key:∀ w'∈its,∃ j,∃ hj:j<its.length,its[j]=w':=λw' hw=>by
  obtain⟨j,hj,e⟩:=List.mem_iff_getElem.mp hw;exact⟨j,hj,e⟩
 have look:∀ (j:Nat) (hj:j<its.length),∃ z q,l[j]?=some q/\RelV z its[j]/\Rep X.K H z q/\eqF 31 q p=some (g j):=λj hj=>by
  obtain⟨z,hz,rz⟩:=qD rv (j:=j) (by simpa using hj)
  obtain⟨q,hq,rq⟩:=hl.got hz;exact⟨z,q,hq,by simpa using rz,rq,g1 j q hq⟩
 classical
 let f:Value->Bool:=λw'=>if h:∃ j,∃ hj:j<its.length,its[j]=w' then g (Classical.choose h) else false
 have fe:∀ (j:Nat) (hj:j<its.length),f its[j]=g j:=λj hj=>by
  have hx:∃ i,∃ hi:i<its.length,its[i]=its[j]:=⟨j,hj,rfl⟩;show(if h:∃ i,∃ hi:i<its.length,its[i]=its[j] then g (Classical.choose h) else false)=g j
  rw[dif_pos hx];obtain⟨h1',h2'⟩:=Classical.choose_spec hx;generalize Classical.choose hx=i at h1' h2' ⊢
  obtain⟨z,q,_,rz,rq,eq1⟩:=look i h1';obtain⟨z',q',_,rz',rq',eq2⟩:=look j hj;rw[h2'] at rz;cases rz.inj rz';cases Rep.inj I rq rq';rw[eq1] at eq2;exact Zab eq2
 refine⟨f,λy hy=>?_,?_⟩
 ·obtain⟨j,hj,e1⟩:=key y (by simpa using hy)
  obtain⟨z,q,_,rz,rq,eq1⟩:=look j hj;rw[<-e1,fe j hj];exact(Tr I 31 (A:=X.A.in1) (show X.A.units+1+31<cLine by have:=Mr hr;lia) eq1 rq h1 rz rx).2.1
 ·have hlen:its.length=l.length:=by rw[<-rv.length,hl.1]
  rw[g2,show its.toArray.any f=its.any f by simp,Bool.eq_iff_iff,List.any_eq_true,List.any_eq_true]
  constructor
  ·rintro⟨w',hw,hf⟩;obtain⟨j,hj,e1⟩:=key w' hw;exact⟨j,ZaA.mpr (by lia),by rw[<-fe j hj,e1];exact hf⟩
  ·rintro⟨j,hj,hf⟩;have hj':j<its.length:=by rw[hlen];exact ZaA.mp hj
   exact⟨its[j],List.getElem_mem hj',by rw[fe j hj'];exact hf⟩
theorem Kp(hr:dw k X.A):OpR X (compareOp .NotIn) (WF X.K true):=by
 intro pins s σ H x y v u Q I rx ry h;obtain⟨p,l,r,h1,h2,e,q⟩:=h;rcases h2 with h2|h2
 ·obtain⟨a,xs,rfl,hq,rr⟩:=h2.bZ;cases ry;obtain⟨its,rv,pl,_⟩:=I.list hq;obtain⟨f,f1,f2⟩:=Dj I hr rx h1 rv rr e;exact SeqAt.notIn_listAt f pl.isList f1 (by rw[f2];exact⟨.bl _,H,I,rfl,q⟩)
 ·obtain⟨a,xs,rfl,hq,rr⟩:=h2.cN;cases ry;obtain⟨its,rv,pl,_⟩:=I.tuple hq;obtain⟨f,f1,f2⟩:=Dj I hr rx h1 rv rr e;exact SeqAt.notIn_tupleAt f pl f1 (by rw[f2];exact⟨.bl _,H,I,rfl,q⟩)
def Ak(K:PySem.W.Frag):R2:=λx y H Q=>WF K true x y H Q\/∃ i j,x=.str i/\y=.str j/\Q (.bl (!(!(Builtin.Str.occurrences j i 0 j.length 1).isEmpty))) H
theorem Kq(hr:dw k X.A):OpR X (compareOp .NotIn) (Ak X.K):=OpR.or (Kp hr) zX
def M8(K:PySem.W.Frag):R2:=λx y H Q=>rI0 (λi j=>.int (i+j)) x y H Q\/(∃ i j,x=.str i/\y=.str j/\i.length+j.length<=sizeLine/\Q (.str (i++j)) H)\/Tg K x y H Q
theorem cj:OpR X (binaryOp .Add) (M8 X.K):=OpR.or Uu (OpR.or Gv Qz)
def Tt:R2:=λx y H Q=>rI Gp (λi j=>.int (i*j)) x y H Q\/∃ z n,x=.str z/\y=.int n/\-(2^63)<=n/\n<2^63/\z.length*n.toNat<=sizeLine/\Q (.str ⟨(List.replicate n.toNat z.cps).foldl (·++·) #[]⟩) H
theorem cX:OpR X (binaryOp .Mult) Tt:=by
 refine OpR.or Uv ?_;intro pins s σ H x y v u Q I rx ry h;obtain⟨z,n,rfl,rfl,h1,h2,h3,q⟩:=h;obtain⟨t,rfl⟩:=rx;obtain⟨t',rfl⟩:=ry;have fin:∀ t k,EP X pins σ Q (.str ⟨(List.replicate n.toNat z.cps).foldl (·++·) #[]⟩ t) { s with toks:=k }:=λt k=>⟨.str _,H,I.tok _,⟨t,rfl⟩,q⟩;have hr:(decide (n < -(2^63:Int))||decide (n>=2^63))=false:=by
  rw[ZaC (by omega),ZaC (by omega)];rfl
 refine PySem.P.mul_str hr (λh4 h5=>?_) (λh4 h5=>?_) ?_
 ·have hn:1<=n:=by omega
  have h6:z.length<=sizeLine:=by
   have:z.length*1<=z.length*n.toNat:=Nat.mul_le_mul_left _ (by omega)
   omega
  have h7:n≠1:=λe=>by subst e;simp at h5
  have h8:(z.length:Int)*n<=16777216:=by
   have e:(z.length:Int)*n=((z.length*n.toNat:Nat):Int):=by
    rw[Int.natCast_mul,ZbE (by omega)]
   rw[e];have:z.length*n.toNat<=16777216:=h3;omega
  have h9:(z.length:Int)<=(2^63-1)/n:=by
   apply(Int.le_ediv_iff_mul_le (by omega)).mpr
   omega
  omega
 ·unfold Builtin.Str.tooLong;exact ZaC (by omega)
 ·by_cases h4:n<1
  ·rw[Zag h4];have e:n.toNat=0:=by omega
   rw[e] at fin;exact⟨Zbb _,fin _ _⟩
  ·rw[Zae h4];refine post_val_or_str ⟨?_,λt' k=>?_⟩
   ·have e1:∀ (m:Nat) (acc:Array Nat),((List.replicate m z.cps).foldl (·++·) acc).size=acc.size+m*z.cps.size:=λm=>by
     induction m with
     |zero=>intro acc;simp
     |succ m ih=>intro acc;rw[List.replicate_succ,List.foldl_cons,ih,Array.size_append,Nat.succ_mul];omega
    have h6:z.length<=sizeLine:=by
     have:z.length*1<=z.length*n.toNat:=Nat.mul_le_mul_left _ (by omega)
     omega
    split
    ·exact h6
    ·show((List.replicate n.toNat z.cps).foldl (·++·) #[]).size<=sizeLine
     rw[e1,Nat.mul_comm];show 0+z.length*n.toNat<=_
     omega
   ·have fz:=fin t' k;split
    ·rename_i h5;have e:(⟨(List.replicate n.toNat z.cps).foldl (·++·) #[]⟩:Str)=z:=by
      rcases Bool.or_eq_true _ _▸h5 with h|h
      ·have:n=1:=by simpa using h
       subst this;show(⟨#[]++z.cps⟩:Str)=z
       rw[Array.empty_append]
      ·have h1:z.length=0:=by simpa using h
       have h0:z.cps=#[]:=Array.eq_empty_of_size_eq_zero h1;have e2:∀ m:Nat,(List.replicate m (#[]:Array Nat)).foldl (·++·) #[]=#[]:=λm=>by
        induction m with
        |zero=>rfl
        |succ m ih=>rw[List.replicate_succ,List.foldl_cons];exact ih
       cases z with
       |mk c=>cases h0;rw[e2]
     rw[e] at fz;exact fz
    ·exact fz
def WK:R2:=λx y H Q=>rI0 (λi j=>.bl (decide (i<j))) x y H Q\/∃ i j,x=.str i/\y=.str j/\Q (.bl (decide (i.cps.toList<j.cps.toList))) H
theorem GX:OpR X (compareOp .Lt) WK:=OpR.or Wo J1
theorem Kr(l b:Addr)(i1 i2:Array Value)(n1 n2:Nat)(s1 s2:Array (Option Value))(hz:i1.size+i2.size<=sizeLine) :
  Meets (Builtin.«list.__add__» ⟨[.ref l,.ref b],[]⟩) (λ_ R s=>s.heap.get? l=some ⟨.type "list",none,.seq i1 n1,s1⟩/\s.heap.get? b=some ⟨.type "list",none,.seq i2 n2,s2⟩ /\
   R (.ok (.ret (Value.ref s.heap.objs.size))) { s with heap:=s.heap.push { cls:=Value.type "list",data:=Data.seq (i1++i2) } }):=by
 refine .of_wp λprog w A R s h=>?_;obtain⟨hp,g,d,tk,os⟩:=s;obtain⟨h1,h2,h⟩:=h;have f1:=AutoSeq1.idx_int;have f2:=AutoSeq1.sub_tuple_tuple;have f3:=AutoSeq1.sub_list_list;have f4:=AutoSeq1.sub_tuple_list;have f5:=AutoSeq1.sub_list_tuple
 wp_walk using AutoSeq1.wpAny_loadPart' h1,AutoSeq1.wpAny_loadPart' h2
 exact⟨_,rfl,h⟩
theorem Al:OpR X (binaryOp .Add) (λx y H Q=>∃ l b xs zs,x=.ref l/\y=.ref b/\SqL X.K H l xs/\SqL X.K H b zs/\xs.length+zs.length<=sizeLine/\∀ p,H p=none->Q (.ref p) (upd H p (.lst (xs++zs)))):=by
 intro pins s σ H x y v u Q I rx ry h;obtain⟨l,b,xs,zs,rfl,rfl,hH,hB,hz,q⟩:=h;cases rx;cases ry;obtain⟨its,r,⟨⟨cl1,dd1,da1,sl1⟩,n1,g1,c1,d1,e1⟩,z1⟩:=I.list hH;obtain⟨its2,r2,⟨⟨cl2,dd2,da2,sl2⟩,n2,g2,c2,d2,e2⟩,z2⟩:=I.list hB;simp only at c1 d1 e1 c2 d2 e2;subst c1 d1 e1 c2 d2 e2;have hs:its.toArray.size+its2.toArray.size<=sizeLine:=by rw[List.size_toArray,List.size_toArray,<-r.length,<-r2.length];exact hz
 refine concat_meets ⟨_,g1,rfl⟩ ⟨_,g2,rfl⟩ noFill_list_add seq_list_add F.slot_list_add F.entry_list_add (F.args_list_add_2 _ _) (Kr l b its.toArray its2.toArray n1 n2 sl1 sl2 hs) ⟨g1,g2,?_⟩;have ea:its.toArray++its2.toArray=(its++its2).toArray:=by simp
 rw[ea];exact⟨.ref _,_,I.X4 (t':=s.toks) (r.append r2) (by rw[List.length_append];lia),rfl,q _ I.fresh⟩
end
theorem noS{α:Type}{r:α}{C:Prop}(e:(none:Option α)=some r):C:=by cases e
def opI(c:Int->Int->Bool)(f:Int->Int->PV):PV->PV->Option (Res PV)
 |.int i,.int j=>if c i j=true then some (.ok (f i j)) else none
 |_,_=>none
def cT:Int->Int->Bool:=λ_ _=>true
def M9:Int->Int->Bool:=λi j=>decide ((-(2^64)<i/\i<2^64)\/(-(2^64)<j/\j<2^64))
def U8:Int->Int->Bool:=λ_ j=>decide (0<j/\j<1073741824)
def WL:Int->Int->Bool:=λ_ j=>decide (0<j)
def Nb:Int->Int->Bool:=λi j=>decide (0<=j/\j<=1000000/\i.natAbs<2^64)
def WM:Int->Int->Bool:=λ_ j=>decide (0<=j)
def ue:=opI cT λi j=>.int (i-j)
def vH:=opI U8 λi j=>.int (i/j)
def gA:=opI WL λi j=>.int (i%j)
def Io:=opI Nb λi j=>.int (i^j.toNat)
def yN:=opI Nb λi j=>.int (i*2^j.toNat)
def yO:=opI WM λi j=>.int (i/2^j.toNat)
def qM:=opI cT λi j=>.int (Builtin.bitAnd i j)
def Q0:=opI cT λi j=>.int (Builtin.bitOr i j)
def Ks:=opI cT λi j=>.bl (decide (j<i))
def Q3:=opI cT λi j=>.bl (decide (j<=i))
def dz:PV->PV->Option (Res PV)
 |.int i,.int j=>some (.ok (.int (i+j)))
 |.str i,.str j=>if i.length+j.length<=sizeLine then some (.ok (.str (i++j))) else none
 |.tup l,.tup m=>if l≠[]/\l.length+m.length<=sizeLine then some (.ok (.tup (l++m))) else none
 |_,_=>none
def U9(z:Str)(n:Nat):Str:=⟨(List.replicate n z.cps).foldl (·++·) #[]⟩
def fO:PV->PV->Option (Res PV)
 |.int i,.int j=>if M9 i j=true then some (.ok (.int (i*j))) else none
 |.str z,.int n=>if -(2^63)<=n/\n<2^63/\z.length*n.toNat<=sizeLine then some (.ok (.str (U9 z n.toNat))) else none
 |_,_=>none
def Ku:PV->PV->Option (Res PV)
 |.int i,.int j=>some (.ok (.bl (decide (i<j))))
 |.str i,.str j=>some (.ok (.bl (decide (i.cps.toList<j.cps.toList))))
 |_,_=>none
def oK(p q:PV):Option (Res PV):=match eqF 32 p q with
 |some r=>some (.ok (.bl r))
 |none=>none
def inU(p:PV):PV->Option Bool
 |.lst l=>inF p l
 |.tup l=>inF p l
 |.str j=>match p with
  |.str i=>some (!(Builtin.Str.occurrences j i 0 j.length 1).isEmpty)
  |_=>none
 |_=>none
def nQ(p q:PV):Option (Res PV):=match inU p q with
 |some r=>some (.ok (.bl (!r)))
 |none=>none
def PV.jj:PV->Bool
 |.non=>true
 |_=>false
def Ip(p q:PV):Option (Res PV):=match q with
 |.non=>some (.ok (.bl p.jj))
 |_=>none
def vI(p q:PV):Option (Res PV):=match q with
 |.non=>some (.ok (.bl (!p.jj)))
 |_=>none
def ofO(x:Option PV):Option (Res PV):=match x with
 |some p=>some (.ok p)
 |none=>none
def cY:PV->PV->Option (Res PV)
 |.lst l,.int i=>ofO (atI l i)
 |.tup l,.int i=>ofO (atI l i)
 |.str z,.int i=>if z.length<=sizeLine then ofO ((atI z.cps.toList i).map λc=>.str ⟨#[c]⟩) else none
 |_,_=>none
def Nf:List PV->PV->Option (Res PV)
 |l,.int i=>ofO (atI l i)
 |_,_=>none
section
variable{K:PySem.W.Frag}{C:Cg}{F H:Hp}
theorem WP{i j:Int}(h:U8 i j=true):Ut i j:=of_decide_eq_true (p:=0<j/\j<1073741824) h
theorem Tu{i j:Int}(h:Nb i j=true):LQ i j:=of_decide_eq_true (p:=0<=j/\j<=1000000/\i.natAbs<2^64) h
theorem WQ{i j:Int}(h:M9 i j=true):Gp i j:=of_decide_eq_true (p:=(-(2^64)<i/\i<2^64)\/(-(2^64)<j/\j<2^64)) h
theorem Dk{c:Int->Int->Bool}{f:Int->Int->PV}{cond:Int->Int->Prop}{fv:Int->Int->V}(hc:∀ i j,c i j=true->cond i j)(hf:∀ i j F,Rep K F (fv i j) (f i j)):R2M C (aF K) (aF K) (aF K) (rI cond fv) (opI c f):=by
 intro F H x y a b res Q s ha hb e P;have inv:(∃ i j,a=.int i/\b=.int j):=by
  clear P ha hb
  cases a<;>first|exact noS e|(cases b<;>first|exact noS e|exact⟨_,_,rfl,rfl⟩)
 obtain⟨i,j,rfl,rfl⟩:=inv;cases Rep.aY ha;cases Rep.aY hb;have e:(if c i j=true then some (Res.ok (f i j)) else none)=some res:=e;split at e
 ·rename_i h;cases e;exact⟨i,j,rfl,rfl,hc i j h,P _ F H (Up.refl s) (hf i j F)⟩
 ·cases e
theorem vJ{f:Int->Int->PV}{fv:Int->Int->V}(hf:∀ i j F,Rep K F (fv i j) (f i j)):R2M C (aF K) (aF K) (aF K) (rI0 fv) (opI cT f):=by
 intro F H x y a b res Q s ha hb e P;have inv:(∃ i j,a=.int i/\b=.int j):=by
  clear P ha hb
  cases a<;>first|exact noS e|(cases b<;>first|exact noS e|exact⟨_,_,rfl,rfl⟩)
 obtain⟨i,j,rfl,rfl⟩:=inv;cases Rep.aY ha;cases Rep.aY hb;cases e;exact⟨i,j,rfl,rfl,P _ F H (Up.refl s) (hf i j F)⟩
theorem Dl:R2M C (aF K) (aF K) (aF K) (rI0 λi j=>.int (i-j)) ue:=vJ λ_ _ _=>.int
theorem Ir:R2M C (aF K) (aF K) (aF K) (rI Ut λi j=>.int (i/j)) vH:=Dk (λ_ _ h=>WP h) λ_ _ _=>.int
theorem jk:R2M C (aF K) (aF K) (aF K) (rI (λ_ j=>0<j) λi j=>.int (i%j)) gA:=Dk (λ_ _ h=>of_decide_eq_true h) λ_ _ _=>.int
theorem WR:R2M C (aF K) (aF K) (aF K) (rI LQ λi j=>.int (i^j.toNat)) Io:=Dk (λ_ _ h=>Tu h) λ_ _ _=>.int
theorem Ng:R2M C (aF K) (aF K) (aF K) (rI LQ λi j=>.int (i*2^j.toNat)) yN:=Dk (λ_ _ h=>Tu h) λ_ _ _=>.int
theorem Nh:R2M C (aF K) (aF K) (aF K) (rI (λ_ j=>0<=j) λi j=>.int (i/2^j.toNat)) yO:=Dk (λ_ _ h=>of_decide_eq_true h) λ_ _ _=>.int
theorem yP:R2M C (aF K) (aF K) (aF K) (rI0 λi j=>.int (Builtin.bitAnd i j)) qM:=vJ λ_ _ _=>.int
theorem Yb:R2M C (aF K) (aF K) (aF K) (rI0 λi j=>.int (Builtin.bitOr i j)) Q0:=vJ λ_ _ _=>.int
theorem Va:R2M C (aF K) (aF K) (aF K) (rI0 λi j=>.bl (decide (j<i))) Ks:=vJ λ_ _ _=>.bl
theorem Yc:R2M C (aF K) (aF K) (aF K) (rI0 λi j=>.bl (decide (j<=i))) Q3:=vJ λ_ _ _=>.bl
theorem eQ:R2M C (aF K) (aF K) (aF K) (M8 K) dz:=by
 intro F H x y a b res Q s ha hb e P;have inv:(∃ i j,a=.int i/\b=.int j)\/(∃ i j,a=.str i/\b=.str j)\/(∃ l m,a=.tup l/\b=.tup m):=by
  clear P ha hb
  cases a<;>first|exact noS e|(cases b<;>first|exact noS e|exact .inl ⟨_,_,rfl,rfl⟩|exact .inr (.inl ⟨_,_,rfl,rfl⟩)|exact .inr (.inr ⟨_,_,rfl,rfl⟩))
 rcases inv with⟨i,j,rfl,rfl⟩|⟨i,j,rfl,rfl⟩|⟨l,m,rfl,rfl⟩
 ·cases Rep.aY ha;cases Rep.aY hb;cases e;exact .inl ⟨i,j,rfl,rfl,P _ F H (Up.refl s) .int⟩
 ·cases Rep.bN ha;cases Rep.bN hb;have e:(if i.length+j.length<=sizeLine then some (Res.ok (PV.str (i++j))) else none)=some res:=e;split at e
  ·rename_i h;cases e;exact .inr (.inl ⟨i,j,rfl,rfl,h,P _ F H (Up.refl s) .str⟩)
  ·cases e
 ·have e:(if l≠[]/\l.length+m.length<=sizeLine then some (Res.ok (PV.tup (l++m))) else none)=some res:=e;split at e
  ·rename_i h;cases e;obtain⟨a1,xs,rfl,h1,r1⟩:=Rep.cN ha;obtain⟨a2,ys,rfl,h2,r2⟩:=Rep.cN hb;have hx:xs≠[]:=λz=>h.1 (by have:=r1.1;rw[z] at this;simpa using this.symm)
   refine .inr (.inr ⟨a1,a2,xs,ys,rfl,rfl,s.tup h1,s.tup h2,hx,by rw[r1.1,r2.1];exact h.2,λz=>?_,λ_ p hp=>?_⟩)
   ·subst z;have hm:m=[]:=by have:=r2.1;simpa using this.symm
    subst hm;rw[ZaJ] at P;exact P _ F H (Up.refl s) ha
   ·have un:=Up.new (o:=.tup (xs++ys)) s hp;exact P _ _ _ un (.tup au (r1.append r2).1 ((r1.append r2).up un.ff).2)
  ·cases e
theorem g8:R2M C (aF K) (aF K) (aF K) Tt fO:=by
 intro F H x y a b res Q s ha hb e P;have inv:(∃ i j,a=.int i/\b=.int j)\/(∃ z n,a=.str z/\b=.int n):=by
  clear P ha hb
  cases a<;>first|exact noS e|(cases b<;>first|exact noS e|exact .inl ⟨_,_,rfl,rfl⟩|exact .inr ⟨_,_,rfl,rfl⟩)
 rcases inv with⟨i,j,rfl,rfl⟩|⟨z,n,rfl,rfl⟩
 ·cases Rep.aY ha;cases Rep.aY hb;have e:(if M9 i j=true then some (Res.ok (PV.int (i*j))) else none)=some res:=e;split at e
  ·rename_i h;cases e;exact .inl ⟨i,j,rfl,rfl,WQ h,P _ F H (Up.refl s) .int⟩
  ·cases e
 ·cases Rep.bN ha;cases Rep.aY hb;have e:(if -(2^63)<=n/\n<2^63/\z.length*n.toNat<=sizeLine then some (Res.ok (PV.str (U9 z n.toNat))) else none)=some res:=e;split at e
  ·rename_i h;cases e;exact .inr ⟨z,n,rfl,rfl,h.1,h.2.1,h.2.2,P _ F H (Up.refl s) .str⟩
  ·cases e
theorem Vb:R2M C (aF K) (aF K) (aF K) WK Ku:=by
 intro F H x y a b res Q s ha hb e P;have inv:(∃ i j,a=.int i/\b=.int j)\/(∃ i j,a=.str i/\b=.str j):=by
  clear P ha hb
  cases a<;>first|exact noS e|(cases b<;>first|exact noS e|exact .inl ⟨_,_,rfl,rfl⟩|exact .inr ⟨_,_,rfl,rfl⟩)
 rcases inv with⟨i,j,rfl,rfl⟩|⟨i,j,rfl,rfl⟩
 ·cases Rep.aY ha;cases Rep.aY hb;cases e;exact .inl ⟨i,j,rfl,rfl,P _ F H (Up.refl s) .bl⟩
 ·cases Rep.bN ha;cases Rep.bN hb;cases e;exact .inr ⟨i,j,rfl,rfl,P _ F H (Up.refl s) .bl⟩
theorem Am:R2M C (aH K) (aH K) (aF K) (WD K) oK:=by
 intro F H x y a b res Q s ha hb e P;unfold oK at e;split at e
 ·rename_i r h;cases e;exact⟨a,b,r,ha,hb,h,P _ F H (Up.refl s) .bl⟩
 ·cases e
theorem Q4:R2M C (aH K) (aH K) (aF K) (Ak K) nQ:=by
 intro F H x y a b res Q s ha hb e P;unfold nQ at e;split at e
 ·rename_i r h;cases e
  match b,h with
  |.lst l,h=>exact .inl ⟨a,l,r,ha,.inl hb,h,P _ F H (Up.refl s) .bl⟩
  |.tup l,h=>exact .inl ⟨a,l,r,ha,.inr hb,h,P _ F H (Up.refl s) .bl⟩
  |.str j,h=>
   match a,h with
   |.str i,h=>
    cases h;exact .inr ⟨i,j,Rep.bN ha,Rep.bN hb,P _ F H (Up.refl s) .bl⟩
 ·cases e
theorem Dm{v:V}{p:PV}(h:Rep K F v p):decide (v=.non)=p.jj:=by
 cases h<;>first|rfl|exact ZaC (by intro z;cases z)
theorem Tw:R2M C (aH K) (aF K) (aF K) (λx y H Q=>y=.non/\Q (.bl (decide (x=.non))) H) Ip:=by
 intro F H x y a b res Q s ha hb e P
 match b,e with
 |.non,e=>
  cases e;rw[Dm ha];exact⟨Rep.dH hb,P _ F H (Up.refl s) .bl⟩
theorem GZ:R2M C (aH K) (aF K) (aF K) (λx y H Q=>y=.non/\Q (.bl (!decide (x=.non))) H) vI:=by
 intro F H x y a b res Q s ha hb e P
 match b,e with
 |.non,e=>
  cases e;rw[Dm ha];exact⟨Rep.dH hb,P _ F H (Up.refl s) .bl⟩
theorem An{xs:List V}{l:List PV}{i:Int}{p:PV}(r:bh K F xs l)(h:atI l i=some p):∃ v,atI xs i=some v/\Rep K F v p:=by
 unfold atI at h ⊢;rw[r.1];cases e:ixN l.length i with
 |none=>rw[e] at h;cases h
 |some j=>
  rw[e] at h;exact r.get h
theorem qN{x:Option PV}{res:Res PV}(h:ofO x=some res):∃ p,x=some p/\res=.ok p:=by
 cases x with
 |none=>cases h
 |some p=>cases h;exact⟨p,rfl,rfl⟩
theorem dB:R2M C (aF K) (aF K) (aF K) (rIx K) cY:=by
 intro F H x y a b res Q s ha hb e P;have inv:(∃ l i,a=.lst l/\b=.int i)\/(∃ l i,a=.tup l/\b=.int i)\/(∃ z i,a=.str z/\b=.int i):=by
  clear P ha hb
  cases a<;>first|exact noS e|(cases b<;>first|exact noS e|exact .inl ⟨_,_,rfl,rfl⟩|exact .inr (.inl ⟨_,_,rfl,rfl⟩)|exact .inr (.inr ⟨_,_,rfl,rfl⟩))
 rcases inv with⟨l,i,rfl,rfl⟩|⟨l,i,rfl,rfl⟩|⟨z,i,rfl,rfl⟩
 ·cases Rep.aY hb;obtain⟨p,e1,rfl⟩:=qN e;obtain⟨a1,xs,rfl,h1,r1⟩:=Rep.bZ ha;obtain⟨v,e2,rv⟩:=An r1 e1;exact .inl ⟨a1,xs,i,v,rfl,rfl,s.seq h1,e2,P _ F H (Up.refl s) rv⟩
 ·cases Rep.aY hb;obtain⟨p,e1,rfl⟩:=qN e;obtain⟨a1,xs,rfl,h1,r1⟩:=Rep.cN ha;obtain⟨v,e2,rv⟩:=An r1 e1;exact .inr (.inl ⟨a1,xs,i,v,rfl,rfl,s.tup h1,e2,P _ F H (Up.refl s) rv⟩)
 ·cases Rep.aY hb;cases Rep.bN ha;have e:(if z.length<=sizeLine then ofO ((atI z.cps.toList i).map λc=>PV.str ⟨#[c]⟩) else none)=some res:=e;split at e
  ·rename_i hz;obtain⟨p,e1,rfl⟩:=qN e;cases e2:atI z.cps.toList i with
   |none=>rw[e2] at e1;cases e1
   |some c=>
    rw[e2] at e1;cases e1;exact .inr (.inr ⟨z,i,c,rfl,rfl,hz,e2,P _ F H (Up.refl s) .str⟩)
  ·cases e
theorem WT:R2M C (aV K) (aF K) (aF K) (rIx K) Nf:=by
 intro F H x y a b res Q s ha hb e P
 match b,e with
 |.int i,e=>
  cases Rep.aY hb;obtain⟨p,e1,rfl⟩:=qN e;obtain⟨a1,xs,rfl,h1,r1⟩:=ha;obtain⟨v,e2,rv⟩:=An r1 e1;exact .inl ⟨a1,xs,i,v,rfl,rfl,h1,e2,P _ F H (Up.refl s) rv⟩
def yQ(l m:List PV):Option (Res PV):=if l.length+m.length<=sizeLine then some (.ok (.lst (l++m))) else none
def WW(K:PySem.W.Frag):R2:=λx y H Q=>∃ l b xs zs,x=.ref l/\y=.ref b/\SqL K H l xs/\SqL K H b zs/\xs.length+zs.length<=sizeLine/\∀ p,H p=none->Q (.ref p) (upd H p (.lst (xs++zs)))
theorem Ni:R2O K C (aV K) (aV K) (WW K) yQ:=by
 intro F H x y a b res Q s ha hb e P;unfold yQ at e;split at e
 ·rename_i h;cases e;obtain⟨a1,xs,rfl,h1,r1⟩:=ha;obtain⟨a2,ys,rfl,h2,r2⟩:=hb;refine⟨a1,a2,xs,ys,rfl,rfl,h1,h2,by rw[r1.1,r2.1];exact h,λp hp=>?_⟩
  exact P p F _ (Up.GQ s hp) hp (s.free hp) ⟨_,au,r1.append r2⟩
 ·cases e
variable{te:TE}
def MP'(K:PySem.W.Frag)(C:Cg)(t:TO)(f:Fn (Option Int)):Prop:=
 ∀ F H σ ρ Q r,RE K C.toCf F H σ ρ->f ρ=some r->Pr C F (λo=>∀ F' H',Up F H F' H'->Q o H') r->t σ H Q
def mPn:Fn (Option Int):=λ_=>some (.ok none)
def asInt:PV->Option (Res (Option Int))
 |.int i=>some (.ok (some i))
 |_=>none
theorem Q5:MP' K C Il mPn:=λF H σ ρ Q r R e P=>by
 cases e;exact P F H (Up.refl R.rb.sub)
theorem Q6{f:Fn PV}(h:MJ K C (aF K) te f):MP' K C (Tf te) (m1 asInt f):=by
 intro F H σ ρ Q r R e P;refine h.run R e P λp v F1 H1 hk u a=>?_
 match p,hk with
 |.int i,hk=>
  cases Rep.aY a;cases hk;exact⟨i,rfl,P F1 H1 u⟩
theorem MP'.run{β:Type}{t:TO}{f:Fn (Option Int)}{σ:St}{ρ:Rho}{Q:Option Int->Hp->Prop}{ok:β->Prop}{k:Option Int->Option (Res β)}{r:Res β}(h:MP' K C t f)(R:RE K C.toCf F H σ ρ)(hb:bnd (f ρ) k=some r)(P:Pr C F ok r)
  (go:∀ o F1 H1,k o=some r->Up F H F1 H1->Q o H1):t σ H Q:=by
 rcases bK hb with⟨z,e,rfl⟩|⟨p,e,hk⟩
 ·exact h F H σ ρ Q _ R e P
 ·exact h F H σ ρ Q _ R e λF1 H1 u=>go p F1 H1 hk u
def Ha(l:List PV)(lo hi:Option Int):List PV:=(l.drop (HT.sIx l.length 0 lo)).take (HT.sIx l.length l.length hi-HT.sIx l.length 0 lo)
theorem bh.cut{xs:List V}{l:List PV}(h:bh K F xs l)(lo hi:Option Int):bh K F (J8 xs lo hi) (Ha l lo hi):=by
 unfold J8 Ha;rw[h.1];exact(h.drop _).take _
def Q7(f:Fn (List PV))(lo hi:Fn (Option Int)):Fn PV:=λρ=>bnd (f ρ) λl=>bnd (lo ρ) λa=>bnd (hi ρ) λb=>some (.ok (.lst (Ha l a b)))
theorem Vc{f:Fn (List PV)}{lo hi:Fn (Option Int)}{tl th:TO}(h:MJ K C (aV K) te f)(hl:MP' K C tl lo)(hh:MP' K C th hi):MO K C (tSl (Ww K) te tl th) (Q7 f lo hi):=by
 intro F H σ ρ Q r R e P;refine h.run R e P λl v F1 H1 hk u a=>?_;refine hl.run (R.up u) hk (P.vB u) λo F2 H2 hk2 u2=>?_;refine hh.run (R.up (u.trans u2)) hk2 (P.vB (u.trans u2)) λo2 F3 H3 hk3 u3=>?_;cases hk3;obtain⟨b,xs,rfl,h1,r1⟩:=a;have u23:=u2.trans u3;refine⟨b,xs,rfl,u23.hh.seq h1,λp hp=>?_⟩;exact P p F3 _ (u.trans (u23.trans (Up.GQ u3.fh hp))) ((u.hh.trans u23.hh).free hp) (u3.fh.free hp) ⟨_,au,(r1.up u23.ff).cut _ _⟩
end
def Tz(K:PySem.W.Frag)(tl:TE):TI:=λσ H R=>tl σ H λx H1=>(∃ a,x=.ref a/\(∃ xs,SqL K H1 a xs)/\R (Itl K a) H1)\/(∃ a,x=.ref a/\(∃ xs,SqT K H1 a xs)/\R (Itt K a) H1)\/∃ z,x=.str z/\R (Itf (sgn z) z.cps.size) H1
theorem kZ{X:Cx}{tg l:Expr}{tl:TE}(hl:PE X l tl):PI X tg l (Tz X.K tl):=by
 intro pins s σ H R I h;refine thn (hl pins s σ H _ I h) ?_;rintro v s1 ⟨x,H1,I1,r1,q1⟩;have keep:∀ (o:Obj),Inv X pins σ H1 { s1 with heap:=s1.heap.push o }:=λo=>I1.kept (t':=s1.toks) λb ob e=>Zad _ e;have fp:∀ b∈[s1.heap.objs.size],vd X pins H1 b:=λb hb=>by
  have e:b=s1.heap.objs.size:=by simpa using hb
  subst e;exact I1.CJ (Zai _) (I1.hok.fresh (Zai _))
 rcases q1 with⟨a,rfl,⟨xs,hq⟩,q⟩|⟨a,rfl,⟨xs,hq⟩,q⟩|⟨z,rfl,q⟩
 ·cases r1;obtain⟨its,rv,p,hz⟩:=I1.list hq;exact wpAny_pyIter_list p.isList ⟨_,[_],_,_,H1,rfl,keep _,JZ a _,⟨_,Zar _ rfl,rfl,rfl⟩,fp,q⟩
 ·cases r1;obtain⟨its,rv,p,hz⟩:=I1.tuple hq;exact wpAny_pyIter_tuple (show s1.heap.IsTuple a its.toArray from p) ⟨_,[_],_,_,H1,rfl,keep _,Gm a _,⟨_,Zar _ rfl,rfl,rfl⟩,fp,q⟩
 ·obtain⟨t,rfl⟩:=r1;exact wpAny_pyIter_strU ⟨_,[_],_,_,H1,rfl,keep _,Ml _ z t,⟨_,Zar _ rfl,rfl,rfl⟩,fp,q⟩
section
variable{K:PySem.W.Frag}{C:Cg}{F H:Hp}{σ:St}{ρ:Rho}{te:TE}{tA:TA}{a:Addr}{xs:List V}{l:List PV}
def signs(z:Str):List PV:=z.cps.toList.map λc=>.str ⟨#[c]⟩
def mU:PV->Option (Res (List PV))
 |.lst l=>some (.ok l)
 |.tup l=>some (.ok l)
 |.str z=>some (.ok (signs z))
 |_=>none
theorem Nj(h:SqL K F a xs)(r:bh K F xs l):ItR K (Itl K a) F l where
 stop:=λF' H' s s'=>⟨xs,(s.trans s').seq h,by rw[r.1];exact Zai _⟩
 go:=λi F' H' hi s s'=>⟨xs,xs[i]'(by rw[r.1];exact hi),(s.trans s').seq h,by simp⟩
 yld:=λi F' H' x H'' hi s s' y=>by
  obtain⟨rfl,y⟩:=y;have e:=y xs ((s.trans s').seq h);obtain⟨p,e2,rp⟩:=r.got e;exact⟨F',p,Up.refl s',e2,rp.up s⟩
theorem Q8(h:SqT K F a xs)(r:bh K F xs l):ItR K (Itt K a) F l where
 stop:=λF' H' s s'=>⟨xs,(s.trans s').tup h,by rw[r.1];exact Zai _⟩
 go:=λi F' H' hi s s'=>⟨xs,xs[i]'(by rw[r.1];exact hi),(s.trans s').tup h,by simp⟩
 yld:=λi F' H' x H'' hi s s' y=>by
  obtain⟨rfl,y⟩:=y;have e:=y xs ((s.trans s').tup h);obtain⟨p,e2,rp⟩:=r.got e;exact⟨F',p,Up.refl s',e2,rp.up s⟩
theorem Q9(z:Str):ItR K (Itf (sgn z) z.cps.size) F (signs z) where
 stop:=λF' H' s s'=>by simp[signs,Itf]
 go:=λi F' H' hi s s'=>by simpa[signs,Itf] using hi
 yld:=λi F' H' x H'' hi s s' y=>by
  obtain⟨rfl,rfl⟩:=y;have hi':i<z.cps.size:=by simpa[signs] using hi
  refine⟨F',.str ⟨#[z.cps.getD i 0]⟩,Up.refl s',?_,.str⟩;unfold signs;rw[List.getElem?_map,ZaH,Array.getD_eq_getD_getElem?,ZaE hi'];rfl
theorem lq{f:Fn PV}(h:MJ K C (aF K) te f):MI K C (Tz K te) (m1 mU f):=by
 intro F H σ ρ R' r R e P;refine h.run R e P λp v F1 H1 hk u a=>?_
 match p,hk with
 |.lst l,hk=>
  cases hk;obtain⟨b,xs,rfl,h1,r1⟩:=Rep.bZ a;exact .inl ⟨b,rfl,⟨xs,u.fh.seq h1⟩,P _ F1 H1 u (Nj h1 r1)⟩
 |.tup l,hk=>
  cases hk;obtain⟨b,xs,rfl,h1,r1⟩:=Rep.cN a;exact .inr (.inl ⟨b,rfl,⟨xs,u.fh.tup h1⟩,P _ F1 H1 u (Q8 h1 r1)⟩)
 |.str z,hk=>
  cases hk;cases Rep.bN a;exact .inr (.inr ⟨z,rfl,P _ F1 H1 u (Q9 z)⟩)
def mW(lo:Int)(n:Nat):List PV:=(List.range n).map λ(i:Nat)=>.int (lo+(i:Int))
theorem dX(lo:Int)(n:Nat):(mW lo n).length=n:=by simp[mW]
theorem Iu(lo:Int)(n:Nat):ItR K (Itr lo n) F (mW lo n) where
 stop:=λF' H' s s'=>by rw[dX];exact Zai _
 go:=λi F' H' hi s s'=>by rw[dX] at hi;exact hi
 yld:=λi F' H' x H'' hi s s' y=>by
  obtain⟨rfl,rfl⟩:=y;rw[dX] at hi;refine⟨F',.int (lo+i),Up.refl s',?_,.int⟩;unfold mW;rw[List.getElem?_map,Zbm hi];rfl
def pP:List PV->Option (Res (List PV))
 |[.int j]=>if -(2^62)<=j/\j<2^62 then some (.ok (mW 0 j.toNat)) else none
 |_=>none
def vK:List PV->Option (Res (List PV))
 |[.int i,.int j]=>if -(2^62)<=i/\i<2^62/\-(2^62)<=j/\j<2^62 then some (.ok (mW i (j-i).toNat)) else none
 |_=>none
theorem qO{f:Fn (List PV)}(h:MA K C tA f):MI K C (S9 tA) (m1 pP f):=by
 intro F H σ ρ R' r R e P;refine h.run R e P λl xs F1 H1 hk u a=>?_;have inv:∃ j,l=[.int j]:=by
  clear P u a
  rcases l with _|⟨x,_|⟨y,l⟩⟩<;>first|exact noS hk|(cases x<;>first|exact noS hk|exact⟨_,rfl⟩)
 obtain⟨j,rfl⟩:=inv;have hk:(if -(2^62)<=j/\j<2^62 then some (Res.ok (mW 0 j.toNat)) else none)=some r:=hk;split at hk
 ·rename_i hj;cases hk;obtain⟨v,ys,rfl,r1,r2⟩:=a.cV;cases r2.gQ;cases Rep.aY r1;exact⟨j,rfl,hj.1,hj.2,P _ F1 H1 u (Iu 0 j.toNat)⟩
 ·cases hk
theorem Ao{f:Fn (List PV)}(h:MA K C tA f):MI K C (Tc tA) (m1 vK f):=by
 intro F H σ ρ R' r R e P;refine h.run R e P λl xs F1 H1 hk u a=>?_;have inv:∃ i j,l=[.int i,.int j]:=by
  clear P u a
  rcases l with _|⟨x,_|⟨y,_|⟨z,l⟩⟩⟩<;>first|exact noS hk|(cases x<;>first|exact noS hk|(cases y<;>first|exact noS hk|exact⟨_,_,rfl⟩))
 obtain⟨i,j,rfl⟩:=inv;have hk:(if -(2^62)<=i/\i<2^62/\-(2^62)<=j/\j<2^62 then some (Res.ok (mW i (j-i).toNat)) else none)=some r:=hk;split at hk
 ·rename_i hj;cases hk;obtain⟨v,ys,rfl,r1,r2⟩:=a.cV;obtain⟨w,zs,rfl,r3,r4⟩:=r2.cV;cases r4.gQ;cases Rep.aY r1;cases Rep.aY r3;exact⟨i,j,rfl,hj,P _ F1 H1 u (Iu i (j-i).toNat)⟩
 ·cases hk
def uf(l:List PV):List PV:=l.mapIdx λ(i:Nat) x=>.tup [.int i,x]
def Hb:List PV->Option (Res (List PV))
 |[.lst l]=>some (.ok (uf l))
 |_=>none
theorem Ra{f:Fn (List PV)}(h:MA K C tA f):MI K C (Ti K tA) (m1 Hb f):=by
 intro F H σ ρ R' r R e P;refine h.run R e P λl xs F1 H1 hk u a=>?_;have inv:∃ m,l=[.lst m]:=by
  clear P u a
  rcases l with _|⟨x,_|⟨y,l⟩⟩<;>first|exact noS hk|(cases x<;>first|exact noS hk|exact⟨_,rfl⟩)
 obtain⟨l,rfl⟩:=inv;cases hk;obtain⟨v,ys,rfl,r1,r2⟩:=a.cV;cases r2.gQ;obtain⟨b,xs,rfl,h1,r1⟩:=Rep.bZ r1;have hl:(uf l).length=l.length:=by simp[uf]
 refine⟨b,rfl,⟨xs,u.fh.seq h1⟩,P _ F1 H1 u ⟨λF' H' s s'=>?_,λi F' H' hi s s'=>?_,λi F' H' x H'' hi s s' y=>?_⟩⟩
 ·exact⟨xs,(s.trans s').seq h1,by rw[hl,r1.1];exact Zai _⟩
 ·rw[hl] at hi;exact⟨xs,xs[i]'(by rw[r1.1];exact hi),(s.trans s').seq h1,by simp⟩
 ·obtain⟨p,y,hp,rfl,rfl,hy⟩:=y;have e:=hy xs ((s.trans s').seq h1);obtain⟨q,e2,rq⟩:=r1.got e;have un:=Up.new (o:=.tup [.int i,y]) s' hp;refine⟨_,.tup [.int i,q],un,?_,.tup au rfl λj x p hx hp'=>?_⟩
  ·unfold uf;rw[List.getElem?_mapIdx,e2];rfl
  ·match j with
   |0=>simp at hx hp';subst hx hp';exact .int
   |1=>simp at hx hp';subst hx hp';exact rq.up (s.trans un.ff)
   |j+2=>simp at hx
def NoO(ρ:Rho):Prop:=∀ (j:Nat) q,ρ[j]?≠some (some (.ow q))/\ρ[j]?≠some (some (.dp q))
def Wr(T:List Nat)(tg:PV->Rho->Option Rho):Prop:=∀ x ρ ρ',tg x ρ=some ρ'->ρ'.length=ρ.length/\(∀ j,j ∉ T->ρ'[j]?=ρ[j]?)/\(NoO ρ->NoO ρ')
def WrS(T:List Nat)(tg:List PV->Rho->Option Rho):Prop:=∀ x ρ ρ',tg x ρ=some ρ'->ρ'.length=ρ.length/\(∀ j,j ∉ T->ρ'[j]?=ρ[j]?)/\(NoO ρ->NoO ρ')
theorem dI(i:Nat):Wr [i] (gN i):=λx ρ ρ' e=>by
 cases e;refine⟨by simp,λj hj=>?_,λh j q=>⟨λe=>?_,λe=>?_⟩⟩
 ·rw[Zak (by simpa using ZaX (by simpa using hj))]
 ·rcases get_set e with⟨_,e2⟩|⟨_,e2⟩
  ·cases e2
  ·exact(h j q).1 e2
 ·rcases get_set e with⟨_,e2⟩|⟨_,e2⟩
  ·cases e2
  ·exact(h j q).2 e2
theorem uG:WrS [] gsNil:=λx ρ ρ' e=>by
 cases x with
 |nil=>cases e;exact⟨rfl,λ_ _=>rfl,λh=>h⟩
 |cons p l=>cases e
theorem ie{T U:List Nat}{t:PV->Rho->Option Rho}{u:List PV->Rho->Option Rho}(h:Wr T t)(hs:WrS U u):WrS (T++U) (gsCons t u):=λx ρ ρ' e=>by
 cases x with
 |nil=>cases e
 |cons p l=>
  have e:(match t p ρ with
   |some ρ'=>u l ρ'
   |none=>none)=some ρ':=e
  split at e
  ·rename_i ρ1 h1;obtain⟨a1,a2,a3⟩:=h p ρ ρ1 h1;obtain⟨b1,b2,b3⟩:=hs l ρ1 ρ' e;exact⟨b1.trans a1,λj hj=>(b2 j λz=>hj (ZaN _ z)).trans (a2 j λz=>hj (List.mem_append_left _ z)),λz=>b3 (a3 z)⟩
  ·cases e
theorem Aq{n:Nat}{U:List Nat}{u:List PV->Rho->Option Rho}(hs:WrS U u):Wr U (gT n u):=λx ρ ρ' e=>by
 unfold gT at e;split at e
 ·split at e
  ·exact hs _ ρ ρ' e
  ·cases e
 ·cases e
def shOnly:Option Sl->Option Sl
 |some (.sh p)=>some (.sh p)
 |_=>none
def frR(fr:List (Option Nat))(ρ:Rho):Rho:=fr.map λo=>match o with
 |some i=>match ρ[i]? with
  |some v=>shOnly v
  |none=>none
 |none=>none
def dJ(tg:PV->Rho->Option Rho)(tst:Fn Bool)(el:Fn PV)(ρb:Rho):List PV->Option (Res (List PV))
 |[]=>some (.ok [])
 |x::xs=>match tg x ρb with
  |none=>none
  |some ρ1=>bnd (tst ρ1) λb=>if b=true then bnd (el ρ1) λp=>bnd (dJ tg tst el ρb xs) λr=>some (.ok (p::r)) else dJ tg tst el ρb xs
def jm(it:Fn (List PV))(fr:List (Option Nat))(tg:PV->Rho->Option Rho)(tst:Fn Bool)(el:Fn PV):Fn PV:=λρ=>bnd (it ρ) λl=>
 if l.length<=sizeLine then bnd (dJ tg tst el (frR fr ρ) l) λr=>some (.ok (.lst r)) else none
def uv:Fn Bool:=λ_=>some (.ok true)
theorem vL:MT K C Wy uv:=λF H σ ρ Q r R e P=>by
 cases e;exact P F H (Up.refl R.rb.sub)
theorem RE.block(R:RE K C.toCf F H σ ρ)(fr:List (Option Nat)):RE K C.toCf F H (frσ fr σ) (frR fr ρ)/\NoO (frR fr ρ):=by
 have nd:∀ (j:Nat) q,(frR fr ρ)[j]?≠some (some (.dp q)):=λj q e=>by
  unfold frR at e;rw[List.getElem?_map] at e;cases e1:fr[j]? with
  |none=>rw[e1] at e;cases e
  |some o=>
   rw[e1] at e;cases o with
   |none=>cases e
   |some i=>
    simp only[ZbD,Option.some.injEq] at e;split at e
    ·rename_i v hv;unfold shOnly at e;split at e<;>cases e
    ·cases e
 have no:∀ (j:Nat) q,(frR fr ρ)[j]?≠some (some (.ow q)):=λj q e=>by
  unfold frR at e;rw[List.getElem?_map] at e;cases e1:fr[j]? with
  |none=>rw[e1] at e;cases e
  |some o=>
   rw[e1] at e;cases o with
   |none=>cases e
   |some i=>
    simp only[ZbD,Option.some.injEq] at e;split at e
    ·rename_i v hv;unfold shOnly at e;split at e<;>cases e
    ·cases e
 refine⟨⟨R.rb,by unfold frσ frR;simp,λj p e=>?_,λj p e=>absurd e (no j p),λi j p q a e=>absurd e (no i p),_,RD.no nd⟩,λj q=>⟨no j q,nd j q⟩⟩
 unfold frR at e;rw[List.getElem?_map] at e;unfold frσ;rw[List.getElem?_map];cases e1:fr[j]? with
 |none=>rw[e1] at e;cases e
 |some o=>
  rw[e1] at e;cases o with
  |none=>cases e
  |some i=>
   simp only[ZbD,Option.some.injEq] at e ⊢;split at e
   ·rename_i v hv;unfold shOnly at e;split at e
    ·cases e;obtain⟨w,e2,e3⟩:=R.sh i _ hv;exact⟨w,by rw[e2],e3⟩
    ·cases e
   ·cases e
theorem RE.other(R:RE K C.toCf F H σ ρ){D:Addr}{o:HO}(hf:F D=none)(h0:C.H0 D=none)(no:NoO ρ):RE K C.toCf F (upd H D o) σ ρ where
 rb:=⟨λb u q=>by rw[aq (bB q hf)];exact R.rb.sub b u q,λb u q n=>by rw[aq (bB q h0)];exact R.rb.keep b u q n,R.rb.new,λb hb=>⟨by
  have:=(R.rb.ios b hb);by_cases hbD:b=D
  ·subst hbD;exact absurd h0 this.2
  ·rw[aq hbD];exact this.1,(R.rb.ios b hb).2⟩⟩
 len:=R.len
 sh:=R.sh
 ow:=λi p e=>absurd e (no i p).1
 dis:=λi j p q a e=>absurd e (no i p).1
 dd:=⟨_,RD.no λi p=>(no i p).2⟩
theorem RE.weak{ρ':Rho}(R:RE K C.toCf F H σ ρ')(hl:ρ.length=ρ'.length)(h:∀ (j:Nat) s,ρ[j]?=some (some s)->ρ'[j]?=some (some s)):RE K C.toCf F H σ ρ where
 rb:=R.rb
 len:=by rw[R.len,hl]
 sh:=λi p e=>R.sh i p (h i _ e)
 ow:=λi p e=>R.ow i p (h i _ e)
 dis:=λi j p q a e e'=>R.dis i j p q a (h i _ e) (h j _ e')
 dd:=let⟨P,d⟩:=R.dd;⟨P,d.own,d.dis,λi j q b z e=>d.ow i j q b z (h j _ e),λi p e=>d.dp i p (h i _ e)⟩
structure ItH(K:PySem.W.Frag)(J:It)(F H:Hp)(l:List PV):Prop where
 stop:∀ F' H',aP F F'->aP F' H'->aP H H'->J.stop l.length H'
 go:∀ i F' H',i<l.length->aP F F'->aP F' H'->aP H H'->J.go i H'
 yld:∀ i F' H' x H'',i<l.length->aP F F'->aP F' H'->aP H H'->J.yld i H' x H''->∃ F'' p,Up F' H' F'' H''/\l[i]?=some p/\Rep K F'' x p
def MIH(K:PySem.W.Frag)(C:Cg)(wi:TI)(f:Fn (List PV)):Prop:=
 ∀ F H σ ρ R' r,RE K C.toCf F H σ ρ->f ρ=some r->Pr C F (λl=>∀ J F' H',Up F H F' H'->ItH K J F' H' l->R' J H') r->wi σ H R'
theorem MI.h{wi:TI}{f:Fn (List PV)}(h:MI K C wi f):MIH K C wi f:=λF H σ ρ R' r R e P=>
 h F H σ ρ R' r R e (Pr.mono P (aP.refl _) λl q J F' H' u x=>q J F' H' u ⟨λa b c d _=>x.stop a b c d,λi a b hi c d _=>x.go i a b hi c d,λi a b y z hi c d _=>x.yld i a b y z hi c d⟩)
theorem iV{α β γ:Type}{x:Option (Res α)}{f:α->Option (Res β)}{g:β->Option (Res γ)}:bnd (bnd x f) g=bnd x λa=>bnd (f a) g:=by
 match x with
 |some (.ok a)=>rfl
 |some (.ex z)=>rfl
 |none=>rfl
theorem Nk{wi:TI}{it:Fn (List PV)}{fr:List (Option Nat)}{gt:TG}{tg:PV->Rho->Option Rho}{T:List Nat}{tc:TT}{tst:Fn Bool}{el:Fn PV}(hi:MIH K C wi it)(hg:MG K C gt tg)(hT:Wr T tg)(ht:MT K C tc tst)(he:MJ K C (aF K) te el)
  (hfr:T.all (λj=>fr[j]?==some none)=true:=by rfl):MO K C (CZ wi fr gt tc te) (jm it fr tg tst el):=by
 intro F H σ ρ Q r R e P;rcases bK e with⟨z,e1,rfl⟩|⟨l,e1,hk⟩
 ·exact hi F H σ ρ _ _ R e1 P
 split at hk
 case isFalse=>cases hk
 rename_i hlen;refine hi F H σ ρ _ _ R e1 λJ F1 H1 u hJ D hD=>?_;have R1:=R.up u;obtain⟨Rb,no⟩:=R1.block fr;have hD0:C.H0 D=none:=R1.rb.t7 hD;have hFD:F1 D=none:=u.fh.free hD;have hρ:∀ (j:Nat),j∈T->(frR fr ρ)[j]?=some none:=λj hj=>by
  have:=Za6.mp hfr j hj;unfold frR;rw[List.getElem?_map,show fr[j]?=some none by simpa using this]
  rfl
 refine⟨λi m σ' H'=>∃ F' ys acc,m=l.length-i/\i<=l.length/\aP F1 F'/\(∀ b o,F' b=some o->F1 b=some o\/Frz H1 b o)/\aP H1 H'/\H' D=some (.lst ys)/\F' D=none/\bh K F' ys acc/\acc.length<=i /\
   RE K C.toCf F' H' σ' (frR fr ρ)/\bnd (dJ tg tst el (frR fr ρ) (l.drop i)) (λr=>some (.ok (.lst (acc++r))))=some r,
  ⟨l.length,F1,[],[],by simp,Zbb _,aP.refl _,λ_ _ q=>.inl q,di hD,au,hFD,.nil,Zai _,Rb.other hFD hD0 no,by rw[Zbo];exact hk⟩,?_⟩
 rintro i m σ' H' ⟨F',ys,acc,rfl,hil,s1,fr1,sH,eD,nD,ra,hacc,R',e'⟩;by_cases hlt:i<l.length
 case neg=>
  have ei:i=l.length:=by omega
  subst ei;rw[List.drop_length] at e';have e':some (Res.ok (PV.lst (acc++[])))=some r:=e';rw[ZaJ] at e';cases e';exact .inl ⟨hJ.stop F' H' s1 R'.rb.sub sH,P D F' H' (u.trans ⟨s1,sH,fr1,R'.rb.sub⟩) (u.hh.free hD) nD ⟨ys,eD,ra⟩⟩
 refine .inr ⟨hJ.go i F' H' hlt s1 R'.rb.sub sH,λσ2 H2=>∃ F2 ys acc,aP F1 F2/\(∀ b o,F2 b=some o->F1 b=some o\/Frz H1 b o)/\aP H1 H2/\H2 D=some (.lst ys)/\F2 D=none/\bh K F2 ys acc/\acc.length<=i+1 /\
   RE K C.toCf F2 H2 σ2 (frR fr ρ)/\bnd (dJ tg tst el (frR fr ρ) (l.drop (i+1))) (λr=>some (.ok (.lst (acc++r))))=some r,
  λσ2 H2 ⟨F2,ys,acc,z⟩=>⟨l.length-(i+1),by omega,F2,ys,acc,rfl,hlt,z⟩,λx H'' y=>?_⟩
 obtain⟨F'',p,u2,ep,rx⟩:=hJ.yld i F' H' x H'' hlt s1 R'.rb.sub sH y;have ed:l.drop i=p::l.drop (i+1):=by
  rw[ZaW hlt];rw[List.getElem?_eq_getElem hlt] at ep;rw[Zab ep]
 rw[ed,dJ] at e';split at e'
 ·cases e'
 rename_i ρ1 h1;obtain⟨w1,w2,w3⟩:=hT p _ ρ1 h1;have no1:=w3 no;have weak:∀ (j:Nat) s,(frR fr ρ)[j]?=some (some s)->ρ1[j]?=some (some s):=λj s ej=>by
  rw[w2 j λz=>by rw[hρ j z] at ej;cases ej];exact ej
 refine hg F'' H'' σ' (frR fr ρ) x p ρ1 _ (R'.up u2) rx h1 λσ1 R1'=>?_;have stay:∀ {F3 H3:Hp},Up F' H' F3 H3->aP F1 F3/\(∀ b o,F3 b=some o->F1 b=some o\/Frz H1 b o)/\aP H1 H3/\H3 D=some (.lst ys)/\F3 D=none/\bh K F3 ys acc:=λ{F3 H3} u3=>by
  refine⟨s1.trans u3.ff,λb o q=>?_,sH.trans u3.hh,u3.hh _ _ eD,?_,ra.up u3.ff⟩
  ·rcases u3.fr b o q with z|z
   ·exact fr1 b o z
   ·exact .inr (z.imp (λz=>sH.free z) id)
  ·cases q:F3 D with
   |none=>rfl
   |some o=>
    rcases u3.fr D o q with z|z|⟨ys,z⟩
    ·rw[nD] at z;cases z
    ·rw[eD] at z;cases z
    ·subst z;have w:=u3.fh _ _ q;rw[u3.hh _ _ eD] at w;cases w
 have Pl:∀ {F3 H3:Hp},Up F' H' F3 H3->∀ {z:PV},r=.ex z->PX C F3 z:=λ{F3 H3} u3 {z} ez=>by
  subst ez;exact PX.up P (u.ff.trans (s1.trans u3.ff))
 rw[iV] at e';rcases bK e' with⟨z',e4,ez⟩|⟨b,e4,e5⟩
 ·exact ht F'' H'' σ1 ρ1 _ _ R1' e4 (Pl u2 ez)
 refine ht F'' H'' σ1 ρ1 _ _ R1' e4 λF3 H3 u3=>?_;have u23:=u2.trans u3;cases b with
 |false=>
  rw[Zae (by decide)] at e5 ⊢
  obtain⟨a1,a2,a3,a4,a5,a6⟩:=stay u23;exact⟨F3,ys,acc,a1,a2,a3,a4,a5,a6,by omega,(R1'.up u3).weak w1.symm weak,e5⟩
 |true=>
  rw[Zag rfl] at e5 ⊢;rw[iV] at e5;rcases bK e5 with⟨z',e6,ez⟩|⟨q,e6,e7⟩
  ·exact he F3 H3 σ1 ρ1 _ _ (R1'.up u3) e6 (Pl u23 ez)
  refine he F3 H3 σ1 ρ1 _ _ (R1'.up u3) e6 λv F4 H4 u4 rv=>?_;have u24:=u23.trans u4;obtain⟨a1,a2,a3,a4,a5,a6⟩:=stay u24;refine⟨ys,a4,by rw[a6.1];omega,F4,ys++[v],acc++[q],a1,a2,yI hD a3,au,a5,a6.snoc rv,by simp;omega,((R1'.up (u3.trans u4)).other a5 hD0 no1).weak w1.symm weak,?_⟩
  rw[iV] at e7;rw[<-e7];congr 1
  funext rr
  show some (Res.ok (PV.lst (acc++[q]++rr)))=some (Res.ok (PV.lst (acc++q::rr)))
  rw[Zax];rfl
theorem nU{wi:TI}{it:Fn (List PV)}{fr:List (Option Nat)}{gt:TG}{tg:PV->Rho->Option Rho}{T:List Nat}{tc:TT}{tst:Fn Bool}{el:Fn PV}(hi:MI K C wi it)(hg:MG K C gt tg)(hT:Wr T tg)(ht:MT K C tc tst)(he:MJ K C (aF K) te el)
  (hfr:T.all (λj=>fr[j]?==some none)=true:=by rfl):MO K C (CZ wi fr gt tc te) (jm it fr tg tst el):=Nk hi.h hg hT ht he hfr
end
def tyN:PV->Option String
 |.non=>some "NoneType"
 |.bl _=>some "bool"
 |.int _=>some "int"
 |.str _=>some "str"
 |.tup _=>some "tuple"
 |.lst _=>some "list"
 |.dk _=>some "dict"
 |.dt _=>some "dict"
 |_=>none
def Vd(t T:String):Option Bool:=
 if t=T then some true else
 if T="int" then some (t=="bool") else
 if T="bool"\/T="str"\/T="tuple"\/T="list"\/T="dict" then some false else none
theorem Rc{K:PySem.W.Frag}{p:PV}{t T:String}{b:Bool}(h:tyN p=some t)(e:Vd t T=some b):PySem.W.kitOne K (.type t) (.type T)=some b:=by
 have ht:t="NoneType"\/t="bool"\/t="int"\/t="str"\/t="tuple"\/t="list"\/t="dict":=by
  cases p<;>simp[tyN] at h<;>subst h<;>simp
 unfold Vd at e;split at e
 ·rename_i e1;subst e1;cases e;exact Mq
 ·split at e
  ·rename_i n1 e1;subst e1;cases e;rcases ht with rfl|rfl|rfl|rfl|rfl|rfl|rfl<;>first|exact absurd rfl n1|kernel_rfl
  ·split at e
   ·rename_i n1 n2 e1;cases e;rcases e1 with rfl|rfl|rfl|rfl|rfl<;>rcases ht with rfl|rfl|rfl|rfl|rfl|rfl|rfl<;>first|exact absurd rfl n1|kernel_rfl
   ·cases e
def isI(p:PV)(T:String):Option Bool:=match tyN p with
 |some t=>Vd t T
 |none=>none
section
variable{X:Cx}
def WX(K:PySem.W.Frag):List V->Hp->VK->Prop:=λxs H Q=>∃ x p T b,xs=[x,.ty T]/\Rep K H x p/\isI p T=some b/\Q (.bl b) H
theorem Dn:lW X (.builtin "isinstance") (WX X.K):=by
 intro pins s σ H xs us Q I rv h;obtain⟨x,p,T,b,rfl,rp,e,q⟩:=h;obtain⟨u,v,rfl,ru,rw'⟩:=rv.two;cases rw';have fin:∀ tk,EP X pins σ Q (.bool b) { s with toks:=tk }:=λtk=>⟨.bl b,H,I.tok _,rfl,q⟩;unfold isI at e;split at e
 case h_2=>cases e
 rename_i t ht;have ek:=Rc (K:=X.K) ht e;cases rp with
 |non=>cases ru;cases ht;exact Zbt PySem.W.kitx_none I.kIn True.intro ek (λz=>nomatch z) fin
 |bl=>cases ru;cases ht;exact Zbt PySem.W.kitx_bool I.kIn True.intro ek (λz=>nomatch z) fin
 |int=>obtain⟨t,rfl⟩:=ru;cases ht;exact Zbt PySem.W.kitx_int I.kIn True.intro ek (λz=>nomatch z) fin
 |str=>obtain⟨t,rfl⟩:=ru;cases ht;exact Zbt PySem.W.kitx_str I.kIn True.intro ek (λz=>nomatch z) fin
 |ty=>cases ht
 |tup h=>
  cases ru;cases ht;obtain⟨_,_,⟨o,h1,h2,_⟩,_⟩:=I.tuple (SqT.of h);exact Zbt PySem.W.kitx_tuple I.kIn ⟨o,h1,h2⟩ ek (λz=>nomatch z) fin
 |lst h=>
  cases ru;cases ht;obtain⟨_,_,⟨o,n,h1,h2,_⟩,_⟩:=I.list h;exact Zbt PySem.W.kitx_list I.kIn ⟨o,h1,h2⟩ ek (λz=>nomatch z) fin
 |dk h=>
  cases ru;cases ht;obtain⟨_,_,vs,_,o,es,ep,h1,h2,_⟩:=h.ok I.hok;exact Zbt PySem.W.kitx_dict I.kIn ⟨o,h1,h2.1⟩ ek (λz=>nomatch z) fin
 |dt h=>
  cases ru;cases ht;obtain⟨_,_,vs,_,o,es,ep,h1,h2,_⟩:=h.ok I.hok;exact Zbt PySem.W.kitx_dict I.kIn ⟨o,h1,h2.1⟩ ek (λz=>nomatch z) fin
 |exc=>cases ht
 |exc0=>cases ht
end
section
variable{K:PySem.W.Frag}{C:Cg}{α β γ:Type}{A:Rel α}{B:Rel β}{D:Rel γ}{ta tb:TE}{f:Fn α}{g:Fn β}{rr:List V->Hp->VK->Prop}
def R1M(C:Cg)(A:Rel α)(D:Rel γ)(rr:List V->Hp->VK->Prop)(op:α->Option (Res γ)):Prop:=
 ∀ F H x a res Q,aP F H->A F H x a->op a=some res->Pr C F (λc=>∀ v F' H',Up F H F' H'->D F' H' v c->Q v H') res->rr [x] H Q
theorem sX{op:α->Option (Res γ)}(rule:R1M C A D rr op)(ha:MJ K C A ta f):MJ K C D (tCB rr (jd ta vh)) (m1 op f):=by
 intro F H σ ρ Q r R e P;refine ha.run R e P λp v F1 H1 hk u a=>?_;exact rule F1 H1 v p r Q u.fh a hk (P.later u)
def R1O(K:PySem.W.Frag)(C:Cg)(A:Rel α)(rr:List V->Hp->VK->Prop)(op:α->Option (Res PV)):Prop:=
 ∀ F H x a res Q,aP F H->A F H x a->op a=some res->Pr C F (λp=>∀ a F' H',Up F H F' H'->H a=none->F' a=none->Own K F' H' a p->Q (.ref a) H') res->rr [x] H Q
theorem vM{op:α->Option (Res PV)}(rule:R1O K C A rr op)(ha:MJ K C A ta f):MO K C (tCB rr (jd ta vh)) (m1 op f):=by
 intro F H σ ρ Q r R e P;refine ha.run R e P λp v F1 H1 hk u a=>?_;exact rule F1 H1 v p r Q u.fh a hk (P.vB u)
def R2B(C:Cg)(A:Rel α)(B:Rel β)(D:Rel γ)(rr:List V->Hp->VK->Prop)(op:α->β->Option (Res γ)):Prop:=
 ∀ F H x y a b res Q,aP F H->A F H x a->B F H y b->op a b=some res->Pr C F (λc=>∀ v F' H',Up F H F' H'->D F' H' v c->Q v H') res->rr [x,y] H Q
theorem Ar{op:α->β->Option (Res γ)}(up:UpM A)(rule:R2B C A B D rr op)(ha:MJ K C A ta f)(hb:MJ K C B tb g):MJ K C D (tCB rr (jd ta (jd tb vh))) (m2 op f g):=by
 intro F H σ ρ Q r R e P;refine ha.run R e P λp v F1 H1 hk u a=>?_;refine hb.run (R.up u) hk (P.later u) λq w F2 H2 hk2 u2 b=>?_;exact rule F2 H2 v w p q r Q u2.fh (up _ _ _ _ _ _ u2 a) b hk2 (P.later (u.trans u2))
def oO:PV->Option (Res PV)
 |.str z=>if z.length<=sizeLine then some (.ok (.int z.length)) else none
 |.lst l=>some (.ok (.int l.length))
 |.tup l=>some (.ok (.int l.length))
 |_=>none
theorem yR:R1M C (aH K) (aF K) (λxs H Q=>∃ x n,xs=[x]/\Ws K x H n/\Q (.int n) H) oO:=by
 intro F H x a res Q s ha e P
 match a,e with
 |.str z,e=>
  cases Rep.bN ha;have e:(if z.length<=sizeLine then some (Res.ok (PV.int z.length)) else none)=some res:=e;split at e
  ·rename_i hz;cases e;exact⟨_,_,rfl,⟨hz,rfl⟩,P _ F H (Up.refl s) .int⟩
  ·cases e
 |.lst l,e=>
  cases e;obtain⟨b,xs,rfl,h1,r1⟩:=Rep.bZ ha;rw[<-r1.1] at P;exact⟨_,_,rfl,.inl ⟨xs,h1,rfl⟩,P _ F H (Up.refl s) .int⟩
 |.tup l,e=>
  cases e;obtain⟨b,xs,rfl,h1,r1⟩:=Rep.cN ha;rw[<-r1.1] at P;exact⟨_,_,rfl,.inr ⟨xs,h1,rfl⟩,P _ F H (Up.refl s) .int⟩
def Kv(p q:PV):Option (Res PV):=match q with
 |.ty T=>match isI p T with
  |some b=>some (.ok (.bl b))
  |none=>none
 |_=>none
theorem WY:R2B C (aH K) (aF K) (aF K) (WX K) Kv:=by
 intro F H x y a b res Q s ha hb e P
 match b,e with
 |.ty T,e=>
  cases Rep.U0 hb;have e:(match isI a T with
   |some b=>some (Res.ok (PV.bl b))
   |none=>none)=some res:=e
  split at e
  ·rename_i k hk;cases e;exact⟨x,a,T,k,rfl,ha,hk,P _ F H (Up.refl s) .bl⟩
  ·cases e
def Nm:PV->PV->Option (Res PV)
 |.int i,.int j=>some (.ok (.int (if j>i then j else i)))
 |_,_=>none
def Np:PV->PV->Option (Res PV)
 |.int i,.int j=>some (.ok (.int (if j<i then j else i)))
 |_,_=>none
theorem W0:R2B C (aF K) (aF K) (aF K) (λxs H Q=>∃ i j,xs=[.int i,.int j]/\Q (.int (if j>i then j else i)) H) Nm:=by
 intro F H x y a b res Q s ha hb e P;have inv:(∃ i j,a=.int i/\b=.int j):=by
  clear P ha hb
  cases a<;>first|exact noS e|(cases b<;>first|exact noS e|exact⟨_,_,rfl,rfl⟩)
 obtain⟨i,j,rfl,rfl⟩:=inv;cases Rep.aY ha;cases Rep.aY hb;cases e;exact⟨i,j,rfl,P _ F H (Up.refl s) .int⟩
theorem W2:R2B C (aF K) (aF K) (aF K) (λxs H Q=>∃ i j,xs=[.int i,.int j]/\Q (.int (if j<i then j else i)) H) Np:=by
 intro F H x y a b res Q s ha hb e P;have inv:(∃ i j,a=.int i/\b=.int j):=by
  clear P ha hb
  cases a<;>first|exact noS e|(cases b<;>first|exact noS e|exact⟨_,_,rfl,rfl⟩)
 obtain⟨i,j,rfl,rfl⟩:=inv;cases Rep.aY ha;cases Rep.aY hb;cases e;exact⟨i,j,rfl,P _ F H (Up.refl s) .int⟩
def Hc(l:List PV):Option (Res PV):=some (.ok (.lst l))
theorem Ve:R1O K C (aV K) (λxs H Q=>∃ p ys,xs=[.ref p]/\(SqL K H p ys\/SqT K H p ys)/\∀ l,H l=none->Q (.ref l) (upd H l (.lst ys))) Hc:=by
 intro F H x a res Q s ha e P;cases e;obtain⟨b,xs,rfl,h1,r1⟩:=ha;exact⟨b,xs,rfl,.inl h1,λl hl=>P l F _ (Up.GQ s hl) hl (s.free hl) ⟨_,au,r1⟩⟩
def qP(f:Fn PV):Fn (List PV):=λρ=>bnd (f ρ) t8
def vN(i:Nat):Fn (List PV):=λρ=>bnd (mVL i ρ) t8
def Nq:PV->Option (Res PV)
 |.int i=>some (.ok (.int (-i)))
 |_=>none
theorem Vf{f:Fn PV}(ha:MJ K C (aF K) ta f):MJ K C (aF K) (tUn (rU λi=>.int (-i)) ta) (m1 Nq f):=by
 intro F H σ ρ Q r R e P;refine ha.run R e P λp v F1 H1 hk u a=>?_
 match p,hk with
 |.int i,hk=>
  cases Rep.aY a;cases hk;exact⟨i,rfl,P _ F1 H1 u .int⟩
end
noncomputable abbrev XR0:Hp->Value->Option Addr->PV->Prop:=λ_ _ _ _=>False
noncomputable abbrev C0(io:Addr->Prop)(H0 F0:Hp):Cg:=⟨⟨io,True,H0,F0,E0⟩,XR0⟩
def startR(ps:List PV)(k:Nat):Rho:=ps.map (λp=>some (.sh p))++List.replicate k none
def fin:Option Out->Option (Res PV)
 |some (.nx _)=>some (.ok .non)
 |some (.rt p)=>some (.ok p)
 |some (.ex z)=>some (.ex z)
 |_=>none
def uw:Option Out->Option (Res PV)
 |some (.ro p)=>some (.ok p)
 |some (.ex z)=>some (.ex z)
 |_=>none
section
variable{K:PySem.W.Frag}{XR:Hp->Value->Option Addr->PV->Prop}{N:List Str}{vs:List V}{H:Hp}{Q:VK}{E:XK}{t:TS}{b:Sn}{m:List PV->Option (Res PV)}
theorem qQ{E:XK}{F:Hp}{ps:List PV}{n:Nat}(s:aP F H)(r:bh K F vs ps)(hN:N.length=vs.length+n):RE K ⟨λ_=>False,True,H,F,E⟩ F H (start N vs) (startR ps n) where
 rb:=⟨s,λ_ _ h _=>h,λ_ _ h=>.inl h,λ_ h=>h.elim⟩
 len:=by unfold start startR;rw[List.length_append,List.length_append,List.length_map,List.length_map,List.length_replicate,List.length_replicate,r.1,hN];have:=r.1;lia
 sh:=λi p e=>by
  unfold startR at e;unfold start;by_cases hi:i<ps.length
  ·rw[Zaj (by simpa using hi),List.getElem?_map] at e
   rw[Zaj (by rw[List.length_map,r.1];exact hi),List.getElem?_map]
   cases h:ps[i]? with
   |none=>rw[h] at e;cases e
   |some q=>
    rw[h] at e;cases e;obtain⟨x,hx,rx⟩:=r.get h;exact⟨x,by rw[hx];rfl,rx⟩
  ·rw[Zau (by simpa using hi),Zbs] at e
   split at e<;>cases e
 ow:=λi p e=>by
  exfalso;unfold startR at e;by_cases hi:i<ps.length
  ·rw[Zaj (by simpa using hi),List.getElem?_map] at e
   cases h:ps[i]? with
   |none=>rw[h] at e;cases e
   |some q=>rw[h] at e;cases e
  ·rw[Zau (by simpa using hi),Zbs] at e
   split at e<;>cases e
 dd:=⟨_,RD.no λi p e=>by
  unfold startR at e;by_cases hi:i<ps.length
  ·rw[Zaj (by simpa using hi),List.getElem?_map] at e
   cases h:ps[i]? with
   |none=>rw[h] at e;cases e
   |some q=>rw[h] at e;cases e
  ·rw[Zau (by simpa using hi),Zbs] at e
   split at e<;>cases e⟩
 dis:=λi j p q a e=>by
  exfalso;unfold startR at e;by_cases hi:i<ps.length
  ·rw[Zaj (by simpa using hi),List.getElem?_map] at e
   cases h:ps[i]? with
   |none=>rw[h] at e;cases e
   |some q=>rw[h] at e;cases e
  ·rw[Zau (by simpa using hi),Zbs] at e
   split at e<;>cases e
theorem dM{k n:Nat}(hk:N.length=k+n)(hm:∀ ps r,m ps=some r->ps.length=k/\fin (b (startR ps n))=some r)(h:spM K XR0 m vs H Q E)(hS:∀ (io:Addr->Prop) (H0 F0:Hp),(∀ a,¬io a)->MS K (C0 io H0 F0) t b) :
  t { nx:=λ_ H'=>Q .non H',rt:=Q } (start N vs) H:=by
 obtain⟨ps,F,r,s,rp,e,P⟩:=h;obtain⟨hl,e⟩:=hm ps r e;have R:=qQ (E:=E0) (N:=N) (n:=n) s rp (by rw[rp.1,hl];exact hk)
 have up:∀ {F' H':Hp},aP F F'->RB ⟨λ_=>False,True,H,F,E0⟩ F' H'->Up F H F' H':=λs' rb=>⟨s',λc o q=>rb.keep c o q id,rb.new,rb.sub⟩;have M:=hS (λ_=>False) H F (λ_ h=>h);cases ho:b (startR ps n) with
 |none=>rw[ho] at e;cases e
 |some o=>
  rw[ho] at e;refine M F H _ _ _ o R ho ?_;cases o with
  |nx ρ=>cases e;exact λF' H' σ s' R'=>P .non F' H' (up s' R'.rb) .non
  |rt p=>cases e;exact λv F' H' s' rb rv=>P v F' H' (up s' rb) rv
  |ex z=>exact λ_ _ _ _ _ _ x=>x.elim
  |ro p=>cases e
  |rd p=>cases e
  |bk ρ=>cases e
  |ct ρ=>cases e
theorem nW{k n:Nat}(hk:N.length=k+n)(hm:∀ ps r,m ps=some r->ps.length=k/\uw (b (startR ps n))=some r)(h:spO K XR0 m vs H Q E)(hS:∀ (io:Addr->Prop) (H0 F0:Hp),(∀ a,¬io a)->MS K (C0 io H0 F0) t b) :
  t { nx:=λ_ H'=>Q .non H',rt:=Q } (start N vs) H:=by
 obtain⟨ps,F,r,s,rp,e,P⟩:=h;obtain⟨hl,e⟩:=hm ps r e;have R:=qQ (E:=E0) (N:=N) (n:=n) s rp (by rw[rp.1,hl];exact hk)
 have up:∀ {F' H':Hp},aP F F'->RB ⟨λ_=>False,True,H,F,E0⟩ F' H'->Up F H F' H':=λs' rb=>⟨s',λc o q=>rb.keep c o q id,rb.new,rb.sub⟩;have M:=hS (λ_=>False) H F (λ_ h=>h);cases ho:b (startR ps n) with
 |none=>rw[ho] at e;cases e
 |some o=>
  rw[ho] at e;refine M F H _ _ _ o R ho ?_;cases o with
  |ro p=>cases e;exact λa F' H' s' rb w n1 n2=>P a F' H' (up s' rb) n2 n1 w
  |ex z=>exact λ_ _ _ _ _ _ x=>x.elim
  |nx ρ=>cases e
  |rt p=>cases e
  |rd p=>cases e
  |bk ρ=>cases e
  |ct ρ=>cases e
theorem dC(h:spM K XR m vs H Q E){k:Nat}(hm:∀ ps r,m ps=some r->ps.length=k):vs.length=k:=by
 obtain⟨ps,F,r,s,rp,e,P⟩:=h;rw[rp.1];exact hm ps r e
theorem nY(h:spO K XR m vs H Q E){k:Nat}(hm:∀ ps r,m ps=some r->ps.length=k):vs.length=k:=by
 obtain⟨ps,F,r,s,rp,e,P⟩:=h;rw[rp.1];exact hm ps r e
end
section
variable{X:Cx}{k:Nat}{N:List Str}{scope:Scope}{cl:List (Str×Addr)}{C:Addr}{s2:Shared}{H2:Hp}{fp:List Addr}
theorem lr:IxR (X.comp N scope cl C s2 H2 fp) (rIx X.K):=bH
theorem Do:OpR (X.comp N scope cl C s2 H2 fp) (binaryOp .Add) (M8 X.K):=cj
theorem Hd(hr:dw k X.A):OpR (X.comp N scope cl C s2 H2 fp) (compareOp .NotIn) (Ak X.K):=Kq hr
end
def W3(j:Nat):Option Out->Option (Res PV)
 |some (.nx ρ)=>match ownAt j ρ with
  |some p=>some (.ok p)
  |none=>none
 |_=>none
section
variable{N:List Str}{vs:List V}
theorem ik{i:Nat}{x:V}(h:vs[i]?=some x):(start N vs)[i]?=some (some x):=by
 unfold start;rw[Zaj (by rw[List.length_map];exact cz h),List.getElem?_map,h]
 rfl
end
theorem Dq:∀ {ns:List Int}{us:List Value},Vals (ns.map V.int) us->IntsAre us ns
 |[],us,r=>by rw[List.map_nil] at r;cases r;exact .nil
 |n::ns,us,r=>by
  rw[Zan] at r;cases r with
  |cons r1 r2=>
   obtain⟨t,e⟩:=r1;subst e;exact .cons n t (Dq r2)
def mX:List PV->Option (List Int)
 |[]=>some []
 |.int n::l=>(mX l).map (n::·)
 |_=>none
theorem vO:typeLookup (.type "list") "keys"=pure none:=am_miss_of_fast (by decide +kernel)
theorem ux:typeLookup (.type "tuple") "keys"=pure none:=am_miss_of_fast (by decide +kernel)
theorem fQ:entryFor table "dict.update.loop"=some Builtin.«dict.update.loop»:=entryFor_of_tree (by kernel_rfl)
theorem bT:plainId "dict.update.loop"=true:=by decide +kernel
section
variable{prog:Program}{w:World}{A:Around}{E:Value->Shared->Prop}{s:Shared}{a:Addr}{o:Obj}{xs:Array Value}{k:Nat}{name:Str}{Q:Option Value->Shared->Prop}
theorem pQ(hx:s.heap.get? a=some o)(hc:o.cls=.type "list")(hdat:o.data=.seq xs k)(hd:o.dict=none)(hmiss:typeLookup (.type "list") name=pure none)(hname:(["__module__","__name__","__qualname__","__doc__","__annotations__"]:List Str).contains name=false)(hA:A.handled=none)
  (h:∀ h' tk,(∀ b ob,s.heap.get? b=some ob->h'.get? b=some ob)->Q none { s with heap:=h',toks:=tk })(hsz:name.length+100<=sizeLine:=by size_fits) :
  wpAny (model prog w) A (getAttr? (.ref a) name) Q E s:=by
 obtain⟨c,dct,dat,sl⟩:=o;simp only at hc hdat hd;subst hc hdat hd;obtain⟨hp,g,d,tk,os⟩:=s;have hT:∀ tk',(⟨hp,g,d,tk',os⟩:Shared).TypeIs (.ref a) "list":=λ_=>⟨_,hx,rfl⟩;have f1:=sub_AttributeError;have f3:=F.slot_list_getattribute.lookup;have f4:=F.slot_list_getattribute.bind (.ref a);have f5:=am_list_getattr_none;unfold getAttr? getAttrBy? getAttrBy;repeat (any_goals (first|assumption|exact hT _|((with_reducible show wpAny _ _ (call (Value.builtin "list.__getattribute__") _ _) _ _ _);refine call_meets F.slot_list_getattribute (hT _) am_entry_list_getattribute (F.args_list_getattribute_2 _ _) (meets_getattribute_miss_list a xs k sl name _ hmiss hname hsz) ⟨hx,hA,λh' tk' e hx'=>?_⟩)|wp_step))
 obtain⟨t',u',he⟩:=hx'.there;show wpAny _ _ (getattributeRaised _ _ _ _ _ _ _) _ _ _
 unfold getattributeRaised;repeat (any_goals (first|assumption|wp_step))
 exact h _ _ hx'.keeps
theorem oM(hx:s.heap.get? a=some o)(hc:o.cls=.type "tuple")(hdat:o.data=.seq xs k)(hd:o.dict=none)(hmiss:typeLookup (.type "tuple") name=pure none)(hname:(["__module__","__name__","__qualname__","__doc__","__annotations__"]:List Str).contains name=false)(hA:A.handled=none)
  (h:∀ h' tk,(∀ b ob,s.heap.get? b=some ob->h'.get? b=some ob)->Q none { s with heap:=h',toks:=tk })(hsz:name.length+100<=sizeLine:=by size_fits) :
  wpAny (model prog w) A (getAttr? (.ref a) name) Q E s:=by
 obtain⟨c,dct,dat,sl⟩:=o;simp only at hc hdat hd;subst hc hdat hd;obtain⟨hp,g,d,tk,os⟩:=s;have hT:∀ tk',(⟨hp,g,d,tk',os⟩:Shared).TypeIs (.ref a) "tuple":=λ_=>⟨_,hx,rfl⟩;have f1:=sub_AttributeError;have f3:=F.slot_tuple_getattribute.lookup;have f4:=F.slot_tuple_getattribute.bind (.ref a);have f5:=am_tuple_getattr_none;unfold getAttr? getAttrBy? getAttrBy;repeat (any_goals (first|assumption|exact hT _|((with_reducible show wpAny _ _ (call (Value.builtin "tuple.__getattribute__") _ _) _ _ _);refine call_meets F.slot_tuple_getattribute (hT _) am_entry_tuple_getattribute (F.args_tuple_getattribute_2 _ _) (meets_getattribute_miss_tuple a xs k sl name _ hmiss hname hsz) ⟨hx,hA,λh' tk' e hx'=>?_⟩)|wp_step))
 obtain⟨t',u',he⟩:=hx'.there;show wpAny _ _ (getattributeRaised _ _ _ _ _ _ _) _ _ _
 unfold getattributeRaised;repeat (any_goals (first|assumption|wp_step))
 exact h _ _ hx'.keeps
end
section
variable{X:Cx}{pins:List (Addr×Obj)}{σ:St}{H H':Hp}{s:Shared}{d:Addr}{y v:V}{u r:Value}{A:Around}{E:Value->Shared->Prop}
theorem Kw{Q:Unit->Shared->Prop}(hu:A.units<cLine)(I:Inv X pins σ H s)(g:qG H d y v H')(ry:RelV y u)(rv:RelV v r)(h:∀ h' tk,Heap.SameBut d s.heap h'->Inv X pins σ H' { s with heap:=h',toks:=tk }->Q () { s with heap:=h',toks:=tk }) :
  wpAny (model X.prog X.w) A (dictSet d u r) Q E s:=by
 rcases g with⟨kvs,k,e,ey,l,eH⟩|⟨kvs,k,b,e,ey,eb,l,eH⟩
 ·subst ey eH;obtain⟨z,hd,vs,rel,dd⟩:=Tn I.hok e;have hz:vs.length<=sizeLine:=by rw[<-rel.length];exact z
  have hl:(putK kvs k v).length<=sizeLine:=by have:=gY kvs k v;omega
  refine wpAny_dictSet_pairs (hsz:=hz) (vz ry) dd λh' dd' hs=>h h' _ hs ?_;have he:∃ q,h'.get? d=some q:=let⟨q,_,_,hq,_⟩:=dd';⟨q,hq⟩;exact qH I (by rw[e];exact True.intro) hs he (Mu hl hd (rel.put k rv) dd')
 ·subst ey eH;cases (show u=Value.ref b from ry);obtain⟨z,hd,xs,rel,dd⟩:=Mt I.hok e;have hz:xs.length<=sizeLine:=by rw[<-Paired.length rel];exact z
  have hl:(putK kvs k v).length<=sizeLine:=by have:=gY kvs k v;omega
  refine wpAny_dictSet_heap (hsz:=hz) (show(tupleKind (cG X.prog X.w)).room A from hu) (mK I.hok eb) dd λh' dd' hs=>h h' _ hs ?_;obtain⟨q,es,ep,hq,h2,h3,h4,_,h5⟩:=dd';refine qH I (by rw[e];exact True.intro) hs ⟨q,hq⟩ ⟨hl,hd,_,(rel.put k eb rv).keeps λc ys ec=>?_,q,es,ep,hq,h2,h3,h4,h5⟩
  rw[aq (Lz ec e (λz=>nomatch z))];exact ec
theorem qG.other(g:qG H d y v H'){b:Addr}(hb:b≠d):H' b=H b:=by
 rcases g with⟨kvs,k,e,ey,l,rfl⟩|⟨kvs,k,b',e,ey,eb,l,rfl⟩
 ·exact aq hb
 ·exact aq hb
def yS(d:Addr):List (V×V)->Hp->(Hp->Prop)->Prop
 |[],H,Q=>Q H
 |(y,v)::r,H,Q=>∃ H',qG H d y v H'/\yS d r H' Q
def Ac(K:PySem.W.Frag)(H:Hp)(ys:List V)(ps:List (V×V)):Prop:=ys.length=ps.length/\∀ (j:Nat) x p,ys[j]?=some x->ps[j]?=some p->∃ T,x=.ref T/\SqT K H T [p.1,p.2]
theorem SqT.but{K:PySem.W.Frag}{T:Addr}{xs:List V}(h:SqT K H T xs)(hb:∀ b,b≠d->H' b=H b)(hn:T≠d):SqT K H' T xs:=by
 rcases h with(h|⟨o,h⟩)|h
 ·exact .inl (.inl (by rw[hb T hn];exact h))
 ·exact .inl (.inr ⟨o,by rw[hb T hn];exact h⟩)
 ·exact .inr h
theorem Nr{it:Addr}{fp:List Addr}{n:Nat}{P:Nat->Value->Prop}{St:Nat->Heap->Prop}{ps:List (V×V)}{R:Result->Shared->Prop}{H0:Hp}(hc:X.calm=true)(W:Walks X.prog X.w A.in1 it fp [it] n P St)(hu:A.in1.units<cLine)
  (hn:ps.length=n)(hd:d ∉ fp)(hit:∀ H,H d≠none->(∀ b,b≠d->H b=H0 b)->vd X pins H it)
  (hp:∀ (i:Nat) v p,P i v->ps[i]?=some p->∃ T,v=.ref T/\T≠d/\SqT X.K H0 T [p.1,p.2]) :
  ∀ (k i:Nat) (s:Shared) (H:Hp),n-i=k->i<=n->St i s.heap->Inv X pins σ H s->H d≠none->(∀ b,b≠d->H b=H0 b)->∀ tk,yS d (ps.drop i) H (λH'=>∀ s',Inv X pins σ H' s'->R (.ok (.ret .none)) s') ->
   codeAny (model X.prog X.w) A (.builtin "dict.update.loop" ⟨[.ref d,.ref it,.int i tk,.none],[]⟩) R s:=by
 intro k;induction k with
 |zero=>
  intro i s H hk hi hst I hHd hb tk hR;have hin:i=n:=by omega
  subst hin;refine codeAny_builtin fQ ?_;rw[Around.under_plainId bT _];show wpAny _ A.in1 (pyNext (.ref it)>>=_) _ _ s
  refine Zaa (W.done s _ _ hst λh' tk' hk'=>?_);show wpAny _ _ (Builtin.Dict.addKeywords d []>>=_) _ _ _
  rw[Zbj (by omega)] at hR
  exact Zaa (Zaf (Zaf (hR _ (I.qC hk' λb hb'=>by rw[ZaK.mp hb'];exact hit H hHd hb))))
 |succ k ih=>
  intro i s H hk hi hst I hHd hb tk hR;have hlt:i<n:=by omega
  have hlp:i<ps.length:=by omega
  have hdr:ps.drop i=ps[i]::ps.drop (i+1):=ZaW hlp;rw[hdr] at hR;refine codeAny_builtin fQ ?_;rw[Around.under_plainId bT _];show wpAny _ A.in1 (pyNext (.ref it)>>=_) _ _ s
  refine Zaa (W.item i s _ _ hlt hst λv h' tk' hP hst' hk'=>?_);obtain⟨T,rfl,hT,hq⟩:=hp i v ps[i] hP (by simp[hlp])
  have I1:Inv X pins σ H { s with heap:=h',toks:=tk' }:=I.qC hk' λb hb'=>by rw[ZaK.mp hb'];exact hit H hHd hb
  obtain⟨its,rv,ht,_⟩:=I1.tuple (SqT.but hq hb hT);obtain⟨u1,u2,rfl,r1,r2⟩:∃ u1 u2,its=[u1,u2]/\RelV ps[i].1 u1/\RelV ps[i].2 u2:=by
   cases rv with
   |cons a t=>cases t with
    |cons b t=>cases t;exact⟨_,_,rfl,a,b⟩
  obtain⟨H',g,hR⟩:=hR;refine Zaa (wpAny_holding (Zaa (wpAny_tryCatch ?_)));unfold Builtin.Dict.pairItems;refine Zaa (wpAny_typeOf ht.typeIs ?_);rw[Zag (by decide)]
  obtain⟨o,h1,_,m,h2⟩:=ht;refine Zaa (wpAny_seqItems h1 h2 (Zaf ?_));show wpAny _ A.in1 (holding [u1,u2] (dictSet d u1 u2)) _ _ _
  refine wpAny_holding (Kw hu I1 g r1 r2 λh2' tk2 hs2 I2=>?_);refine Zaf ⟨plainId_quiet bT _,?_⟩;have:=ih (i+1) { s with heap:=h2',toks:=tk2 } H' (by omega) hlt (W.frame _ _ _ hst' λb hb' o e=>(hs2.2 b λz=>hd (by rw[<-z];exact hb')).trans e) I2
   (by rcases g with⟨_,_,_,_,_,rfl⟩|⟨_,_,_,_,_,_,_,rfl⟩<;>rw[au]<;>simp) (λb hb'=>(qG.other g hb').trans (hb b hb')) 0 hR
  exact this
end
theorem Dr:∀ {xs:List V}{us:List Value}{i:Nat}{u:Value},Vals xs us->us[i]?=some u->∃ x,xs[i]?=some x/\RelV x u
 |[],_,i,u,r,h=>by cases r;simp at h
 |x::xs,_,i,u,r,h=>by
  cases r with
  |cons a t=>
   cases i with
   |zero=>simp at h;subst h;exact⟨x,rfl,a⟩
   |succ i=>obtain⟨y,h1,h2⟩:=Dr (i:=i) t (by simpa using h);exact⟨y,by simpa using h1,h2⟩
def Hf(K:PySem.W.Frag)(n:HO):List V->Hp->VK->Prop:=λxs H Q=>∃ p ys ps,xs=[.ref p]/\(SqL K H p ys\/H p=some (.tup ys))/\Ac K H ys ps/\∀ d,H d=none->yS d ps (upd H d n) λH'=>Q (.ref d) H'
section
variable{X:Cx}
theorem Hg{n:HO}(hc:X.calm=true)(hu:X.A.units+64<cLine)(hn:n=.dK []\/n=.dT []):lW X (.type "dict") (Hf X.K n):=by
 intro pins s σ H xs us Q I rv h;obtain⟨p,ys,ps,rfl,hq,hps,q⟩:=h;obtain⟨u,rfl,ru⟩:=rv.one;cases ru;have hh:X.A.handled=none:=I.ok.hd hc;refine callType_codes (Q₁:=λobj s₁=>obj=.ref s.heap.objs.size/\s₁={ s with heap:=s.heap.push { cls:=.type "dict",data:=.dict #[] } }) F.kt_called_dict (F.kt_typeCall_dict_1 _) F.entry_dict_init (kt_code_dict_new _ ⟨rfl,rfl⟩) ?_;rintro obj s₁ ⟨rfl,rfl⟩;have ok:cF X.prog X.w (upd H s.heap.objs.size n) (s.heap.push { cls:=.type "dict",data:=.dict #[] }) s.heap.objs.size n:=by
  rcases hn with rfl|rfl
  ·exact Mx s.heap I.big
  ·exact Df s.heap I.big
 have hfree:H s.heap.objs.size=none:=I.hok.fresh (Zai _);have I1:Inv X pins σ (upd H s.heap.objs.size n) { s with heap:=s.heap.push { cls:=.type "dict",data:=.dict #[] } }:=I.laid (a:=s.heap.objs.size) (o:=n) (t':=s.toks) (λ_ _ q=>Zad _ q) (Zai _) ok;have q:=q _ hfree;have hd1:(s.heap.push { cls:=.type "dict",data:=.dict #[] }).get? s.heap.objs.size=some { cls:=.type "dict",data:=.dict #[] }:=Zar _ rfl;have tyD:({ s with heap:=s.heap.push { cls:=.type "dict",data:=.dict #[] } }:Shared).TypeIs (.ref s.heap.objs.size) "dict":=⟨_,hd1,rfl⟩;refine⟨tyD,F.args_dict_init_2 _ _,?_⟩;unfold Builtin.«dict.__init__»;refine Zaa ?_;unfold Builtin.Dict.selfAndRest;refine Zaa (wpAny_notOrdered_dict tyD ?_);show wpAny _ _ (pure (s.heap.objs.size,[Value.ref p])) _ _ _
 refine Zaf ?_;show wpAny _ _ (Builtin.Dict.updateFrom "dict.__init__" s.heap.objs.size (.ref p) [] .none) _ _ _
 unfold Builtin.Dict.updateFrom;have same:aP H (upd H s.heap.objs.size n):=di hfree;have hnd:∀ (j:Nat) x pr,ys[j]?=some x->ps[j]?=some pr->∃ T,x=.ref T/\T≠s.heap.objs.size/\SqT X.K (upd H s.heap.objs.size n) T [pr.1,pr.2]:=λj x pr e1 e2=>by
  obtain⟨T,rfl,hT⟩:=hps.2 j x pr e1 e2;obtain⟨its,_,ht,_⟩:=I.tuple hT;exact⟨T,rfl,ZaD ht.lt,same.tup hT⟩
 have fin:∀ (h2:Heap) (tk:Nat) (o:Obj) (St:Nat->Heap->Prop) (its:List Value),(∀ b ob,(s.heap.push { cls:=.type "dict",data:=.dict #[] }).get? b=some ob->h2.get? b=some ob)->Vals ys its ->
   Walks X.prog X.w X.A.in1.in1 h2.objs.size [h2.objs.size,p] [h2.objs.size] its.toArray.size (λi v=>its.toArray[i]?=some v) St->St 0 (h2.push o)->p≠s.heap.objs.size->(∀ b,o.cls≠.ref b) ->
   codeAny (model X.prog X.w) X.A.in1 (.builtin "dict.update.loop" ⟨[.ref s.heap.objs.size,.ref h2.objs.size,.int (0:Nat) 0,.none],[]⟩) (wants (λr s₂=>r=.none/\EP X pins σ Q (.ref s.heap.objs.size) s₂) X.xe) { s with heap:=h2.push o,toks:=tk }:=by
  intro h2 tk o St its hk rv W h0 hp _;have I2:Inv X pins σ (upd H s.heap.objs.size n) { s with heap:=h2,toks:=tk }:=I1.kept hk;have I3:Inv X pins σ (upd H s.heap.objs.size n) { s with heap:=h2.push o,toks:=tk }:=I2.kept (t':=tk) λb ob e=>Zad _ e;have lt1:s.heap.objs.size<h2.objs.size:=Zam (hk _ _ hd1);have hn2:upd H s.heap.objs.size n h2.objs.size=none:=I2.hok.fresh (Zai _);refine Nr (A:=X.A.in1) (ps:=ps) (H0:=upd H s.heap.objs.size n) hc W (show X.A.units+2<cLine by lia) ?_ ?_ (λHx hx1 hx2=>?_) (λi v pr hv hpr=>?_) _ 0 _ _ rfl (Zbb _) h0 I3 (by rw[au];simp) (λ_ _=>rfl) 0 ?_
  ·rw[List.size_toArray,<-rv.length];exact hps.1.symm
  ·intro z;rcases Zaw.mp z with z|z
   ·exact absurd z (ZaD lt1)
   ·exact absurd (ZaK.mp z).symm hp
  ·exact I2.CJ (Zai _) (by rw[hx2 _ (ZbX lt1)];exact hn2)
  ·rw[List.getElem?_toArray] at hv;obtain⟨y,hy,ry⟩:=Dr rv hv;obtain⟨T,rfl,h1,h2⟩:=hnd i y pr hy hpr;cases ry;exact⟨T,rfl,h1,h2⟩
  ·rw[Zbo];have mono:∀ (ps:List (V×V)) (Hx:Hp) (P1 P2:Hp->Prop),(∀ H,P1 H->P2 H)->yS s.heap.objs.size ps Hx P1->yS s.heap.objs.size ps Hx P2:=by
    intro ps;induction ps with
    |nil=>exact λHx P1 P2 hP h=>hP _ h
    |cons a r ih=>exact λHx P1 P2 hP ⟨H',g,h⟩=>⟨H',g,ih _ _ _ hP h⟩
   exact mono _ _ _ _ (λHx hQ s' Is=>⟨rfl,.ref _,Hx,Is,rfl,hQ⟩) q
 rcases hq with hq|hq
 ·obtain⟨its,rv,pl,hz⟩:=I1.list (same.seq hq);have hp:p≠s.heap.objs.size:=λz=>by
   obtain⟨o,m,e,c,_⟩:=pl;rw[z,hd1] at e;cases e;exact absurd (show Value.type "dict"=Value.type "list" from c) (by decide)
  obtain⟨o,m,e,c,dn,dt⟩:=id pl;refine Zaa (wpAny_typeOf (show Shared.TypeIs _ (.ref p) "list" from⟨_,e,c⟩) ?_);rw[Zag (by decide)]
  refine Zaa (pQ e c dt dn vO (by decide +kernel) hh λh2 tk hk=>?_)
  rw[Zag (show(none:Option Value).isNone=true from rfl)];refine Zaa (wpAny_rule (Zaa (wpAny_pyIter_list ((pl.keeps hk).isList) ?_)));refine Zaf ⟨plainId_quiet bT _,fin h2 tk _ _ its hk rv (Walks.list (A:=X.A.in1.in1) hh _ p (ZaD (pl.keeps hk).lt) its.toArray) ⟨⟨_,Zar _ rfl,rfl,rfl⟩,(pl.keeps λb ob eb=>Zad _ (hk b ob eb)).isList⟩ hp (λb z=>nomatch z)⟩
 ·obtain⟨_,its,rv,tn⟩:=(show cF X.prog X.w _ _ p (.tup ys) from I1.hok p _ (same _ _ hq));have hp:p≠s.heap.objs.size:=λz=>by
   obtain⟨⟨o,e,c,_⟩,_⟩:=tn;rw[z,hd1] at e;cases e;exact absurd (show Value.type "dict"=Value.type "tuple" from c) (by decide)
  obtain⟨⟨o,e,c,m,dt⟩,dn⟩:=id tn;refine Zaa (wpAny_typeOf (show Shared.TypeIs _ (.ref p) "tuple" from⟨_,e,c⟩) ?_);rw[Zag (by decide)]
  refine Zaa (oM e c dt (dn o e) ux (by decide +kernel) hh λh2 tk hk=>?_)
  rw[Zag (show(none:Option Value).isNone=true from rfl)];have tp:({ s with heap:=h2,toks:=tk }:Shared).heap.IsTuple p its.toArray:=⟨o,hk _ _ e,c,m,dt⟩;refine Zaa (wpAny_rule (Zaa (wpAny_pyIter_tuple tp ?_)));refine Zaf ⟨plainId_quiet bT _,fin h2 tk _ _ its hk rv (Walks.tuple (A:=X.A.in1.in1) hh _ p (ZaD (Zam (hk _ _ e))) its.toArray) ⟨⟨_,Zar _ rfl,rfl,rfl⟩,⟨o,Zad _ (hk _ _ e),c,m,dt⟩⟩ hp (λb z=>nomatch z)⟩
end
section
variable{κ:Type}[DecidableEq κ]
def cQ:List (κ×PV)->κ->Option PV
 |[],_=>none
 |(a,p)::l,k=>if a=k then some p else cQ l k
def ir:List (κ×PV)->κ->PV->List (κ×PV)
 |[],k,p=>[(k,p)]
 |(a,q)::l,k,p=>if a=k then(a,p)::(if(l.any λe=>decide (e.1=k))=true then ir l k p else l) else(a,q)::ir l k p
inductive fG(K:PySem.W.Frag)(F:Hp):List (κ×V)->List (κ×PV)->Prop
 |nil:fG K F [] []
 |cons {k:κ}{v:V}{p:PV}{xs:List (κ×V)}{l:List (κ×PV)} (h:Rep K F v p) (t:fG K F xs l):fG K F ((k,v)::xs) ((k,p)::l)
variable{K:PySem.W.Frag}{F:Hp}{xs:List (κ×V)}{l:List (κ×PV)}{k:κ}
theorem fG.of:∀ {xs:List (κ×V)}{l:List (κ×PV)},xs.map (·.1)=l.map (·.1)->(∀ (j:Nat) x p,xs[j]?=some x->l[j]?=some p->Rep K F x.2 p.2)->fG K F xs l
 |[],[],_,_=>.nil
 |[],_::_,h,_=>by simp at h
 |_::_,[],h,_=>by simp at h
 |(a,v)::xs,(b,p)::l,h,hr=>by
  simp only[Zan,Zbw] at h;obtain⟨h1,h2⟩:=h;have h1:a=b:=h1;subst h1;exact .cons (hr 0 _ _ rfl rfl) (fG.of h2 λj x p e1 e2=>hr (j+1) x p (by simpa using e1) (by simpa using e2))
theorem fG.keys(h:fG K F xs l):xs.map (·.1)=l.map (·.1):=by
 induction h with
 |nil=>rfl
 |cons h t ih=>simp[ih]
theorem fG.len(h:fG K F xs l):xs.length=l.length:=by
 have:=Zbd List.length h.keys;simpa using this
theorem fG.at(h:fG K F xs l):∀ (j:Nat) x p,xs[j]?=some x->l[j]?=some p->Rep K F x.2 p.2:=by
 induction h with
 |nil=>intro j x p e;simp at e
 |cons h t ih=>
  intro j x p e1 e2;cases j with
  |zero=>simp at e1 e2;subst e1 e2;exact h
  |succ j=>exact ih j x p (by simpa using e1) (by simpa using e2)
theorem fG.none(h:fG K F xs l)(e:cQ l k=none):iD xs k=none:=by
 induction h with
 |nil=>rfl
 |@cons a v p xs l h t ih=>
  unfold cQ at e;split at e
  ·cases e
  ·rename_i hk;rw[jf hk];exact ih e
theorem fG.some{p:PV}(h:fG K F xs l)(e:cQ l k=some p):∃ v,iD xs k=some v/\Rep K F v p:=by
 induction h with
 |nil=>cases e
 |@cons a v q xs l h t ih=>
  unfold cQ at e;split at e
  ·rename_i hk;cases e;exact⟨v,mJ hk,h⟩
  ·rename_i hk;obtain⟨w,h1,h2⟩:=ih e;exact⟨w,by rw[jf hk];exact h1,h2⟩
theorem fG.any(h:fG K F xs l):(xs.any λe=>decide (e.1=k))=l.any λe=>decide (e.1=k):=by
 induction h with
 |nil=>rfl
 |cons h t ih=>simp only[Zb1,ih]
theorem fG.repl{v:V}{p:PV}(h:fG K F xs l)(r:Rep K F v p):(l.any λe=>decide (e.1=k))=true->fG K F (xs.map λkv=>if kv.1=k then(kv.1,v) else kv) (ir l k p):=by
 induction h with
 |nil=>intro z;cases z
 |@cons a w q xs l h t ih=>
  intro z;unfold ir;rw[Zan];by_cases hk:a=k
  ·rw[Zag hk,Zag hk];refine .cons r ?_;by_cases hl:(l.any λe=>decide (e.1=k))=true
   ·rw[Zag hl];exact ih hl
   ·rw[Zae hl];have hx:∀ e∈xs,¬e.1=k:=λe he z=>hl (by rw[<-t.any];exact List.any_eq_true.mpr ⟨e,he,by simpa using z⟩)
    rw[show xs.map (λkv=>if kv.1=k then(kv.1,v) else kv)=xs from by
     conv=>rhs;rw[<-List.map_id xs]
     exact Za4 λe he=>by rw[Zae (hx e he)];rfl]
    exact t
  ·rw[Zae hk,Zae hk];refine .cons h (ih ?_);rw[Zb1] at z;simpa[hk] using z
theorem fG.snoc{v:V}{p:PV}(h:fG K F xs l)(r:Rep K F v p):(l.any λe=>decide (e.1=k))=false->fG K F (xs++[(k,v)]) (ir l k p):=by
 induction h with
 |nil=>intro _;exact .cons r .nil
 |@cons a w q xs l h t ih=>
  intro z;rw[Zb1,Bool.or_eq_false_iff] at z;have hk:¬a=k:=by simpa using z.1
  unfold ir;rw[Zae hk];exact .cons h (ih z.2)
theorem fG.put{v:V}{p:PV}(h:fG K F xs l)(r:Rep K F v p):fG K F (putK xs k v) (ir l k p):=by
 unfold putK;by_cases z:(xs.any λe=>decide (e.1=k))=true
 ·rw[Zag z];exact h.repl r (by rw[<-h.any];exact z)
 ·rw[Zae z];exact h.snoc r (by rw[<-h.any];exact Bool.not_eq_true _▸z)
end
def vP:PV->Option Key
 |.int i=>some (.inl i)
 |.str x=>some (.inr x)
 |_=>none
def dY:List PV->Option (List Key)
 |[]=>some []
 |p::l=>match vP p,dY l with
  |some k,some ks=>some (k::ks)
  |_,_=>none
def W4:Key->PV
 |.inl i=>.int i
 |.inr x=>.str x
theorem vQ{K:PySem.W.Frag}{F:Hp}{p:PV}{k:Key}{v:V}(h:vP p=some k)(r:Rep K F v p):v=kV k:=by
 cases p with
 |int i=>cases h;cases Rep.aY r;rfl
 |str x=>cases h;cases Rep.bN r;rfl
 |_=>cases h
theorem nZ{K:PySem.W.Frag}{F:Hp}:∀ {l:List PV}{ks:List Key}{xs:List V},dY l=some ks->bh K F xs l->xs=ks.map kV
 |[],ks,xs,h,r=>by cases h;exact r.gQ
 |p::l,ks,xs,h,r=>by
  unfold dY at h;split at h
  ·rename_i k ks' h1 h2;cases h;obtain⟨v,ys,rfl,r1,r2⟩:=r.cV;rw[vQ h1 r1,nZ h2 r2];rfl
  ·cases h
def PV.isD:PV->Bool
 |.dk _=>true
 |.dt _=>true
 |_=>false
def DLk(K:PySem.W.Frag)(F H:Hp)(a:Addr):PV->Prop
 |.dk l=>∃ xs,Rd H a (.dK xs)/\xs.map (·.1)=l.map (·.1)/\∀ (j:Nat) x p,xs[j]?=some x->l[j]?=some p->Rep K F x.2 p.2
 |.dt l=>∃ xs,Rd H a (.dT xs)/\xs.map (·.1)=l.map (·.1)/\∀ (j:Nat) x p,xs[j]?=some x->l[j]?=some p->Rep K F x.2 p.2
 |_=>False
theorem DLk.up{K:PySem.W.Frag}{F H F' H':Hp}{a:Addr}{p:PV}(o:DLk K F H a p)(sf:aP F F')(sh:aP H H'):DLk K F' H' a p:=by
 cases p with
 |dk l=>obtain⟨xs,e,r,q⟩:=o;exact⟨xs,e.same sh,r,λj x p a b=>(q j x p a b).up sf⟩
 |dt l=>obtain⟨xs,e,r,q⟩:=o;exact⟨xs,e.same sh,r,λj x p a b=>(q j x p a b).up sf⟩
 |_=>exact o.elim
theorem Own.look{K:PySem.W.Frag}{F H:Hp}{a:Addr}{p:PV}(o:Own K F H a p)(d:p.isD=true):DLk K F H a p:=by
 cases p with
 |dk l=>obtain⟨xs,e,r⟩:=o;exact⟨xs,.inl e,r⟩
 |dt l=>obtain⟨xs,e,r⟩:=o;exact⟨xs,.inl e,r⟩
 |_=>cases d
def aD(K:PySem.W.Frag):Rel PV:=λF H v p=>p.isD=true/\∃ a,v=.ref a/\DLk K F H a p
theorem aD.up{K:PySem.W.Frag}:UpM (aD K):=λ_ _ _ _ _ _ u ⟨h1,b,e,o⟩=>⟨h1,b,e,o.up u.ff u.hh⟩
def asD(p:PV):Option (Res PV):=if p.isD=true then some (.ok p) else none
theorem Rep.own{K:PySem.W.Frag}{F H:Hp}{v:V}{p:PV}(r:Rep K F v p)(s:aP F H)(d:p.isD=true):∃ a,v=.ref a/\DLk K F H a p:=by
 cases r with
 |dk h hl hr=>exact⟨_,rfl,_,h.same s,hl,hr⟩
 |dt h hl hr=>exact⟨_,rfl,_,h.same s,hl,hr⟩
 |_=>cases d
section
variable{K:PySem.W.Frag}{C:Cg}{ta tb te:TE}{f g h:Fn PV}
def Av(f:Fn PV):Fn PV:=λρ=>bnd (f ρ) asD
def eF(i:Nat):Fn PV:=λρ=>bnd (mVL i ρ) asD
theorem Nt(h:MJ K C (aF K) ta f):MJ K C (aD K) ta (Av f):=by
 intro F H σ ρ Q r R e P;refine h.run R e P λp v F1 H1 hk u a=>?_;unfold asD at hk;split at hk
 ·rename_i hd;cases hk;exact P v F1 H1 u ⟨hd,Rep.own a u.fh hd⟩
 ·cases hk
theorem eG(i:Nat):MJ K C (aD K) (iZ i) (eF i):=by
 intro F H σ ρ Q r R e P;unfold eF at e;rcases bK e with⟨z,e1,rfl⟩|⟨p,e1,hk⟩
 ·unfold mVL at e1;split at e1<;>cases e1
 ·unfold asD at hk;split at hk
  case isFalse=>cases hk
  rename_i hd;cases hk;unfold mVL at e1;split at e1
  ·rename_i q hq;cases e1;obtain⟨v,e2,e3⟩:=R.sh i _ hq;exact⟨v,e2,P v F H (Up.refl R.rb.sub) ⟨hd,Rep.own e3 R.rb.sub hd⟩⟩
  ·rename_i q hq;cases e1;obtain⟨a,e2,e3,_⟩:=R.ow i _ hq;exact⟨_,e2,P _ F H (Up.refl R.rb.sub) ⟨hd,a,rfl,e3.look hd⟩⟩
  ·cases e1
def eV:PV->PV->Option (Option PV)
 |.dk l,k=>(vP k).map (cQ l)
 |.dt l,.tup ks=>(dY ks).map (cQ l)
 |_,_=>none
theorem qR{F H:Hp}{a:Addr}{d k:PV}{y:V}{r:Option PV}(s:aP F H)(o:DLk K F H a d)(ry:Rep K F y k)(e:eV d k=some r) :
  ∃ o,qF H a y o/\(r=none->o=none)/\∀ p,r=some p->∃ v,o=some v/\Rep K F v p:=by
 have inv:(∃ l,d=.dk l)\/∃ l ks,d=.dt l/\k=.tup ks:=by
  clear o ry
  cases d<;>first|exact noS e|exact .inl ⟨_,rfl⟩|(cases k<;>first|exact noS e|exact .inr ⟨_,_,rfl,rfl⟩)
 rcases inv with⟨l,rfl⟩|⟨l,ks,rfl,rfl⟩
 ·obtain⟨xs,h1,h2,h3⟩:=o;have D:=fG.of (K:=K) (F:=F) h2 h3;have e:(vP k).map (cQ l)=some r:=e;cases hk:vP k with
  |none=>rw[hk] at e;cases e
  |some k'=>
   rw[hk] at e;cases e;cases vQ hk ry;exact⟨_,.inl ⟨_,_,h1,rfl,rfl⟩,λn=>D.none n,λp q=>D.some q⟩
 ·obtain⟨xs,h1,h2,h3⟩:=o;have D:=fG.of (K:=K) (F:=F) h2 h3;have e:(dY ks).map (cQ l)=some r:=e;cases hk:dY ks with
  |none=>rw[hk] at e;cases e
  |some k'=>
   rw[hk] at e;cases e;obtain⟨b,ys,rfl,hb,rr⟩:=Rep.qI ry;cases nZ hk rr;exact⟨_,.inr ⟨_,_,_,h1,rfl,s _ _ hb,rfl⟩,λn=>D.none n,λp q=>D.some q⟩
def jQ(d k:PV):Option (Res PV):=match eV d k with
 |some (some p)=>some (.ok p)
 |_=>none
def TF:R2:=λx y H Q=>∃ a v,x=.ref a/\qF H a y (some v)/\Q v H
theorem Vg:R2M C (aD K) (aF K) (aF K) TF jQ:=by
 intro F H x y a b res Q s ha hb e P;obtain⟨_,ad,rfl,o⟩:=ha;unfold jQ at e;split at e
 ·rename_i p hp;cases e;obtain⟨ov,g,_,g2⟩:=qR s o hb hp;obtain⟨v,rfl,rv⟩:=g2 p rfl;exact⟨ad,v,rfl,g,P v F H (Up.refl s) rv⟩
 ·cases e
def Ds(k d:PV):Option (Res PV):=(eV d k).map λr=>.ok (.bl r.isSome)
def j6(k d:PV):Option (Res PV):=(eV d k).map λr=>.ok (.bl (!r.isSome))
theorem W5:R2M C (aF K) (aD K) (aF K) (λy x H Q=>∃ a o,x=.ref a/\qF H a y o/\Q (.bl o.isSome) H) Ds:=by
 intro F H x y a b res Q s ha hb e P;obtain⟨_,ad,rfl,o⟩:=hb;unfold Ds at e;cases hp:eV b a with
 |none=>rw[hp] at e;cases e
 |some r=>
  rw[hp] at e;cases e;obtain⟨ov,g,g1,g2⟩:=qR s o ha hp;have es:ov.isSome=r.isSome:=by
   cases r with
   |none=>rw[g1 rfl];rfl
   |some p=>obtain⟨v,rfl,_⟩:=g2 p rfl;rfl
  exact⟨ad,ov,rfl,g,by rw[es];exact P _ F H (Up.refl s) .bl⟩
theorem Dt:R2M C (aF K) (aD K) (aF K) (λy x H Q=>∃ a o,x=.ref a/\qF H a y o/\Q (.bl (!o.isSome)) H) j6:=by
 intro F H x y a b res Q s ha hb e P;obtain⟨_,ad,rfl,o⟩:=hb;unfold j6 at e;cases hp:eV b a with
 |none=>rw[hp] at e;cases e
 |some r=>
  rw[hp] at e;cases e;obtain⟨ov,g,g1,g2⟩:=qR s o ha hp;have es:ov.isSome=r.isSome:=by
   cases r with
   |none=>rw[g1 rfl];rfl
   |some p=>obtain⟨v,rfl,_⟩:=g2 p rfl;rfl
  exact⟨ad,ov,rfl,g,by rw[es];exact P _ F H (Up.refl s) .bl⟩
theorem DLk.isD{F H:Hp}{a:Addr}{p:PV}(o:DLk K F H a p)(d:p.isD=true):IsD H a:=by
 cases p with
 |dk l=>obtain⟨xs,e,_⟩:=o;exact .inl ⟨xs,e⟩
 |dt l=>obtain⟨xs,e,_⟩:=o;exact .inr ⟨xs,e⟩
 |_=>cases d
def Aw(f g:Fn PV):Fn PV:=λρ=>bnd (f ρ) λd=>bnd (g ρ) λk=>(eV d k).map λr=>.ok (r.getD .non)
theorem Nu(ha:MJ K C (aD K) ta f)(hb:MJ K C (aF K) tb g):MJ K C (aF K) (GK ta tb) (Aw f g):=by
 intro F H σ ρ Q r R e P;refine ha.run R e P ?_;rintro d v F1 H1 hk u ⟨hd,a,ea,o⟩;subst ea;refine⟨a,rfl,o.isD hd,?_⟩;refine hb.run (R.up u) hk (P.later u) λk w F2 H2 hk2 u2 b=>?_;cases hp:eV d k with
 |none=>rw[hp] at hk2;cases hk2
 |some q=>
  rw[hp] at hk2;cases hk2;obtain⟨ov,g,g1,g2⟩:=qR u2.fh (o.up u2.ff u2.hh) b hp;refine⟨ov,g,P _ F2 H2 (u.trans u2) ?_⟩;cases q with
  |none=>rw[g1 rfl];exact .non
  |some p=>obtain⟨v,rfl,rv⟩:=g2 p rfl;exact rv
def Hh:PV->PV->PV->Option PV
 |.dk l,k,p=>match vP k with
  |some k=>if l.length<sizeLine then some (.dk (ir l k p)) else none
  |none=>none
 |.dt l,.tup ks,p=>match dY ks with
  |some k=>if l.length<sizeLine then some (.dt (ir l k p)) else none
  |none=>none
 |_,_,_=>none
theorem Ax{F H:Hp}{a:Addr}{d k p d':PV}{y v:V}(s:aP F H)(o:Own K F H a d)(ry:Rep K F y k)(rv:Rep K F v p)(e:Hh d k p=some d') :
  ∃ ob,qG H a y v (upd H a ob)/\Own K F (upd H a ob) a d':=by
 have inv:(∃ l,d=.dk l)\/∃ l ks,d=.dt l/\k=.tup ks:=by
  clear o ry rv
  cases d<;>first|exact noS e|exact .inl ⟨_,rfl⟩|(cases k<;>first|exact noS e|exact .inr ⟨_,_,rfl,rfl⟩)
 rcases inv with⟨l,rfl⟩|⟨l,ks,rfl,rfl⟩
 ·obtain⟨xs,h1,h2,h3⟩:=o;have D:=fG.of (K:=K) (F:=F) h2 h3;have e:(match vP k with|some k=>if l.length<sizeLine then some (PV.dk (ir l k p)) else none|none=>none)=some d':=e
  split at e
  case h_2=>cases e
  rename_i k' hk;split at e
  case isFalse=>cases e
  rename_i hz;cases e;cases vQ hk ry;have D':=D.put (k:=k') rv;exact⟨_,qG.k h1 (by rw[D.len];exact hz),_,au,D'.keys,D'.at⟩
 ·obtain⟨xs,h1,h2,h3⟩:=o;have D:=fG.of (K:=K) (F:=F) h2 h3;have e:(match dY ks with|some k=>if l.length<sizeLine then some (PV.dt (ir l k p)) else none|none=>none)=some d':=e
  split at e
  case h_2=>cases e
  rename_i k' hk;split at e
  case isFalse=>cases e
  rename_i hz;cases e;obtain⟨b,ys,rfl,hb,rr⟩:=Rep.qI ry;cases nZ hk rr;have D':=D.put (k:=k') rv;exact⟨_,qG.t h1 (s _ _ hb) (by rw[D.len];exact hz),_,au,D'.keys,D'.at⟩
def ug(i:Nat)(fe fk:Fn PV):Sn:=λρ=>fP (fe ρ) λp=>match ownAt i ρ with
 |some d=>fP (fk ρ) λk=>match Hh d k p with
  |some d'=>some (.nx (ρ.set i (some (.ow d'))))
  |none=>none
 |none=>none
theorem Iv{i:Nat}{fe fk:Fn PV}(he:MJ K C (aF K) te fe)(hk:MJ K C (aF K) tb fk):MS K C (Mw (iZ i) tb te) (ug i fe fk):=by
 intro F H σ ρ D o R e P;refine he.sW R e P λp v F1 H1 hk1 u a=>?_;split at hk1
 case h_2=>cases hk1
 rename_i d hd;obtain⟨b,g1,_⟩:=R.ow i _ (bw hd);refine⟨_,g1,hk.sW (R.up u) hk1 (P.up u.ff) λk w F2 H2 hk2 u2 rk=>?_⟩;split at hk2
 case h_2=>cases hk2
 rename_i d' hd';cases hk2;have R2:=R.up (u.trans u2);obtain⟨a',k1,k2,_⟩:=R2.ow i _ (bw hd);rw[g1] at k1;cases k1;obtain⟨ob,g,w'⟩:=Ax u2.fh k2 rk (Rep.up a u2.ff) hd';exact⟨b,_,rfl,g,P F2 _ σ (u.trans u2).ff (R2.write (bw hd) g1 w')⟩
def vR:Fn PV:=λ_=>some (.ok (.dt []))
theorem qT:MO K C My vR:=by
 intro F H σ ρ Q r R e P;cases e;intro p hp;exact P p F _ (Up.GQ R.rb.sub hp) hp (R.rb.sub.free hp) ⟨[],au,rfl,λj x p h=>by simp at h⟩
def asPair:PV->Option (PV×PV)
 |.tup [a,b]=>some (a,b)
 |_=>none
def lu:List PV->Option (List (PV×PV))
 |[]=>some []
 |p::l=>match asPair p,lu l with
  |some a,some r=>some (a::r)
  |_,_=>none
def gR(d:PV):List (PV×PV)->Option PV
 |[]=>some d
 |(k,p)::r=>match Hh d k p with
  |some d'=>gR d' r
  |none=>none
theorem vU{F H:Hp}(s:aP F H):∀ {l:List PV}{ps:List (PV×PV)}{xs:List V},lu l=some ps->bh K F xs l ->
  ∃ vs:List (V×V),Ac K H xs vs/\vs.length=ps.length/\∀ (j:Nat) x p,vs[j]?=some x->ps[j]?=some p->Rep K F x.1 p.1/\Rep K F x.2 p.2
 |[],ps,xs,h,r=>by
  cases h;cases r.gQ;exact⟨[],⟨rfl,λj x p e=>by simp at e⟩,rfl,λj x p e=>by simp at e⟩
 |p::l,ps,xs,h,r=>by
  unfold lu at h;split at h
  ·rename_i a r' h1 h2;cases h;obtain⟨v,ys,rfl,r1,r2⟩:=r.cV;obtain⟨vs,g1,g2,g3⟩:=vU s h2 r2;unfold asPair at h1;split at h1
   ·rename_i pa pb;cases h1;obtain⟨b,zs,rfl,hb,rr⟩:=Rep.cN r1;obtain⟨v1,zs1,rfl,q1,rr⟩:=rr.cV;obtain⟨v2,zs2,rfl,q2,rr⟩:=rr.cV;cases rr.gQ;refine⟨(v1,v2)::vs,⟨by simp[g1.1],λj x p e1 e2=>?_⟩,by simp[g2],λj x p e1 e2=>?_⟩
    ·cases j with
     |zero=>simp at e1 e2;subst e1 e2;exact⟨b,rfl,s.tup hb⟩
     |succ j=>exact g1.2 j x p (by simpa using e1) (by simpa using e2)
    ·cases j with
     |zero=>simp at e1 e2;subst e1 e2;exact⟨q1,q2⟩
     |succ j=>exact g3 j x p (by simpa using e1) (by simpa using e2)
   ·cases h1
  ·cases h
theorem vV{F:Hp}{a:Addr}{Q:Hp->Prop}:∀ {ps:List (PV×PV)}{vs:List (V×V)}{H:Hp}{d d':PV},aP F H->F a=none->Own K F H a d->vs.length=ps.length->(∀ (j:Nat) x p,vs[j]?=some x->ps[j]?=some p->Rep K F x.1 p.1/\Rep K F x.2 p.2) ->
  gR d ps=some d'->(∀ H',aP F H'->(∀ b,b≠a->H' b=H b)->Own K F H' a d'->Q H')->yS a vs H Q
 |[],vs,H,d,d',s,hn,o,hl,hr,e,q=>by
  cases vs with
  |nil=>cases e;exact q H s (λ_ _=>rfl) o
  |cons v vs=>simp at hl
 |(k,p)::ps,vs,H,d,d',s,hn,o,hl,hr,e,q=>by
  cases vs with
  |nil=>simp at hl
  |cons v vs=>
   unfold gR at e;split at e
   case h_2=>cases e
   rename_i d1 h1;obtain⟨r1,r2⟩:=hr 0 v (k,p) rfl rfl;obtain⟨ob,g,o1⟩:=Ax s o r1 r2 h1;refine⟨_,g,vV (H:=upd H a ob) (λb u z=>by rw[aq (bB z hn)];exact s b u z) hn o1 (by simpa using hl) (λj x p e1 e2=>hr (j+1) x p (by simpa using e1) (by simpa using e2)) e λH' s' hb o'=>?_⟩
   exact q H' s' (λb hb'=>(hb b hb').trans (aq hb')) o'
def qU(d:PV)(l:List PV):Option (Res PV):=match lu l with
 |some ps=>(gR d ps).map .ok
 |none=>none
theorem Rf{n:HO}{d:PV}(hd:∀ F H a,H a=some n->Own K F H a d):R1O K C (aV K) (Hf K n) (qU d):=by
 intro F H x l res Q s ha e P;obtain⟨b,xs,rfl,h1,r1⟩:=ha;unfold qU at e;split at e
 case h_2=>cases e
 rename_i ps hps;cases hd':gR d ps with
 |none=>rw[hd'] at e;cases e
 |some d'=>
  rw[hd'] at e;cases e;obtain⟨vs,g1,g2,g3⟩:=vU (H:=H) s hps r1;refine⟨b,xs,vs,rfl,.inl h1,g1,λa na=>?_⟩;refine vV (F:=F) (s.trans (di na)) (s.free na) (hd _ _ _ au) g2 g3 hd' λH' s' hb o'=>?_;exact P a F H' ⟨aP.refl _,λc o q=>by rw[hb c (bB q na),aq (bB q na)];exact q,λ_ _ q=>.inl q,s'⟩ na (s.free na) o'
theorem Rg{F H:Hp}{a:Addr}(h:H a=some (.dT [])):Own K F H a (.dt []):=⟨[],h,rfl,λj x p e=>by simp at e⟩
end
section
variable{K:PySem.W.Frag}{C:Cg}{ta tb:TE}{f g:Fn PV}
theorem qW(ha:MJ K C (aD K) ta f)(hb:MJ K C (aF K) tb g):MJ K C (aF K) (Mv ta tb) (m2 jQ f g):=aJ (r2:=TF) aD.up Vg ha hb
end
section
variable{X:Cx}
theorem Vh{k:Nat}(hr:dw k X.A):OpR X (compareOp .In) (λy x H Q=>∃ a o,x=.ref a/\qF H a y o/\Q (.bl o.isSome) H):=by
 intro pins s σ H x y v u Q I rx ry h;obtain⟨a,o,rfl,g,q⟩:=h;cases ry;exact X7 (qx hr) I g rx λs3 I3=>⟨.bl o.isSome,H,I3,rfl,q⟩
theorem yU{k:Nat}(hr:dw k X.A):OpR X (compareOp .NotIn) (λy x H Q=>∃ a o,x=.ref a/\qF H a y o/\Q (.bl (!o.isSome)) H):=by
 intro pins s σ H x y v u Q I rx ry h;obtain⟨a,o,rfl,g,q⟩:=h;cases ry;exact QQ (qx hr) I g rx λs3 I3=>⟨.bl (!o.isSome),H,I3,rfl,q⟩
theorem Hi{k:Nat}(hr:dw k X.A)(hc:X.calm=true):lW X (.type "dict") (Hf X.K (.dT [])):=Hg hc hr.units (.inr rfl)
end
section
variable{X:Cx}{k:Nat}{N:List Str}{scope:Scope}{cl:List (Str×Addr)}{C:Addr}{s2:Shared}{H2:Hp}{fp:List Addr}
theorem Hj(hr:dw k X.A):OpR (X.comp N scope cl C s2 H2 fp) (compareOp .NotIn) (λy x H Q=>∃ a o,x=.ref a/\qF H a y o/\Q (.bl (!o.isSome)) H):=yU hr
theorem mY{X:Cx}{k:Nat}{o i:Expr}{pos:Pos}{td ty:TE}(hr:dw k X.A)(ho:PE X o td)(hi:PE X i ty)(hs:UV i):PE X (.Subscript o i pos) (Mv td ty):=QT (qx hr) ho hi hs
theorem Ky{X:Cx}{k:Nat}{o e:Expr}{apos cpos:Pos}{td ty:TE}(hr:dw k X.A)(ho:PE X o td)(he:PE X e ty)(m:M1 X o "get" apos e cpos):PE X (.Call (.Attribute o "get" apos) [e] [] cpos) (GK td ty):=MF (qx hr) ho he m
end
section
def CR(a b c:Int):Prop:=0<=a/\a<2^30/\-(2^30)<=b/\b<2^30/\0<c/\c<2^30
noncomputable instance(a b c:Int):Decidable (CR a b c):=inferInstanceAs (Decidable (_/\_))
theorem sU{acc:Array Value}{n:Nat}(h:ItemsOf (λi v=>∃ t,v=.int (0+(i:Nat)*1) t) acc n):Vals ((List.range n).map λi=>V.int (i:Nat)) acc.toList:=by
 obtain⟨hs,hv⟩:=h;have go:∀ (l:List Value) (k:Nat),(∀ (i:Nat) v,l[i]?=some v->∃ t,v=Value.int (((k+i:Nat):Int)) t)->Vals ((List.range' k l.length).map λi=>V.int (i:Nat)) l:=by
  intro l;induction l with
  |nil=>intro k _;exact .nil
  |cons v l ih=>
   intro k h;rw[Zaz,List.range'_succ,Zan];obtain⟨t,e⟩:=h 0 v rfl;refine .cons ⟨t,by rw[e];rfl⟩ (ih (k+1) λi v hv=>?_)
   obtain⟨t,e⟩:=h (i+1) v (by simpa using hv)
   exact⟨t,by rw[e];congr 2;omega⟩
 have:=go acc.toList 0 λi v e=>by
  obtain⟨t,e2⟩:=hv i v (by simpa using e)
  exact⟨t,by rw[e2];congr 1;omega⟩
 rwa [Za3,hs,<-List.range_eq_range'] at this
end
def POk(K:PySem.W.Frag)(C:Cg)(F:Hp)(D:Ends)(i:Nat)(c:Option (Option V)):Out->Prop
 |.nx ρ=>∀ F' H' σ,aP F F'->RE K C.toCf F' H' σ ρ->σ[i]?=c->D.nx σ H'
 |.bk ρ=>∀ F' H' σ,aP F F'->RE K C.toCf F' H' σ ρ->σ[i]?=c->D.bk σ H'
 |.ct ρ=>∀ F' H' σ,aP F F'->RE K C.toCf F' H' σ ρ->σ[i]?=c->D.ct σ H'
 |o=>PO' K C F D o
def MSk(K:PySem.W.Frag)(C:Cg)(i:Nat)(t:TS)(f:Sn):Prop:=∀ F H σ ρ D o,RE K C.toCf F H σ ρ->f ρ=some o->POk K C F D i (σ[i]?) o->t D σ H
def MGk(K:PySem.W.Frag)(C:Cg)(i:Nat)(g:TG)(tg:PV->Rho->Option Rho):Prop:=
 ∀ F H σ ρ v p ρ' Q,RE K C.toCf F H σ ρ->Rep K F v p->tg p ρ=some ρ'->(∀ σ',RE K C.toCf F H σ' ρ'->σ'[i]?=σ[i]?->Q σ' H)->g v σ H Q
section
variable{K:PySem.W.Frag}{C:Cg}{i:Nat}{te:TE}{F H:Hp}{σ:St}{ρ:Rho}{D:Ends}{t u:TS}{f g:Sn}{o:Out}{c:Option (Option V)}
theorem POk.up{F1:Hp}(h:POk K C F D i c o)(s:aP F F1):POk K C F1 D i c o:=by
 cases o with
 |nx ρ=>exact λF' H' σ a=>h F' H' σ (s.trans a)
 |bk ρ=>exact λF' H' σ a=>h F' H' σ (s.trans a)
 |ct ρ=>exact λF' H' σ a=>h F' H' σ (s.trans a)
 |rt p=>exact λv F' H' a=>h v F' H' (s.trans a)
 |ro p=>exact λv F' H' a=>h v F' H' (s.trans a)
 |rd p=>exact λv F' H' S a=>h v F' H' S (s.trans a)
 |ex z=>exact PX.up h s
theorem qX(j:Nat)(h:j≠i):MGk K C i (u9 j) (gN j):=λF H σ ρ v p ρ' Q R r e k=>by
 cases e;exact k _ (R.set j r) (Zak h)
theorem MT.Nv{tt:TT}{fe:Fn Bool}{Q:Bool->Hp->Prop}{k:Bool->Option Out}(h:MT K C tt fe)(R:RE K C.toCf F H σ ρ)(hb:fP (fe ρ) k=some o)(P:POk K C F D i c o)
  (go:∀ b F1 H1,k b=some o->Up F H F1 H1->Q b H1):tt σ H Q:=by
 rcases b7 hb with⟨z,e,rfl⟩|⟨p,e,hk⟩
 ·exact h F H σ ρ Q _ R e P
 ·exact h F H σ ρ Q _ R e λF1 H1 u=>go p F1 H1 hk u
theorem MJ.Nv{α:Type}{A:Rel α}{ta:TE}{fe:Fn α}{Q:VK}{k:α->Option Out}(h:MJ K C A ta fe)(R:RE K C.toCf F H σ ρ)(hb:fP (fe ρ) k=some o)(P:POk K C F D i c o)
  (go:∀ p v F1 H1,k p=some o->Up F H F1 H1->A F1 H1 v p->Q v H1):ta σ H Q:=by
 rcases b7 hb with⟨z,e,rfl⟩|⟨p,e,hk⟩
 ·exact h F H σ ρ Q _ R e P
 ·exact h F H σ ρ Q _ R e λv F1 H1 u a=>go p v F1 H1 hk u a
theorem uH{fe:Fn PV}{gt:TG}{tg:PV->Rho->Option Rho}(h:MJ K C (aF K) te fe)(hg:MGk K C i gt tg):MSk K C i (LK te gt) (cW fe tg):=by
 intro F H σ ρ D o R e P;refine h.Nv R e P λp v F1 H1 hk u a=>?_;split at hk
 ·rename_i ρ' h1;cases hk;exact hg F1 H1 σ ρ v p ρ' _ (R.up u) a h1 λσ' R' k=>P F1 H1 σ' u.ff R' k
 ·cases hk
theorem qY(h1:MSk K C i t f)(h2:MSk K C i u g):MSk K C i (Qs t u) (bf f g):=by
 intro F H σ ρ D o R e P;unfold bf at e;split at e
 ·rename_i ρ' h;refine h1 F H σ ρ _ _ R h ?_;exact λF' H' σ' s R' k=>h2 F' H' σ' ρ' D o R' e (by rw[k];exact P.up s)
 ·rename_i x hx;cases o with
  |nx ρ'=>exact absurd e (hx ρ')
  |bk ρ=>exact h1 F H σ _ _ _ R e P
  |ct ρ=>exact h1 F H σ _ _ _ R e P
  |rt p=>exact h1 F H σ _ _ _ R e P
  |ro p=>exact h1 F H σ _ _ _ R e P
  |rd p=>exact h1 F H σ _ _ _ R e P
  |ex z=>exact h1 F H σ _ _ _ R e P
end
def New(H F' H':Hp)(S:Addr->Prop):Prop:=∀ b,S b->H b=none/\F' b=none/\∃ o,H' b=some o/\∀ ys,o≠.tup ys
def MD(K:PySem.W.Frag)(C:Cg)(te:TE)(f:Fn PV):Prop:=
 ∀ F H σ ρ Q r,RE K C.toCf F H σ ρ->f ρ=some r->Pr C F (λp=>∀ v F' H' S,Up F H F' H'->Dp K F' H' S v p->New H F' H' S->Q v H') r->te σ H Q
def spD(K:PySem.W.Frag)(XR:Hp->Value->Option Addr->PV->Prop)(m:List PV->Option (Res PV)):Sp:=λvs H Q E=>∃ ps F r,aP F H/\bh K F vs ps/\m ps=some r/\match r with
 |.ok p=>∀ v F' H' S,Up F H F' H'->Dp K F' H' S v p->New H F' H' S->Q v H'
 |.ex z=>∀ e d F' H',Up F H F' H'->XR F' e d z->E e d H'
section
variable{K:PySem.W.Frag}{C:Cg}{te:TE}{F F1 F2 H H1 H2:Hp}{σ:St}{ρ:Rho}{D:Ends}{t u:TS}{f g:Sn}{o:Out}{S:Addr->Prop}{v:V}{p:PV}
theorem New.up(n:New H F1 H1 S)(u:Up F1 H1 F2 H2):New H F2 H2 S:=λb q=>by
 obtain⟨n0,n1,o,n2,n3⟩:=n b q;refine⟨n0,?_,o,u.hh _ _ n2,n3⟩;cases e:F2 b with
 |none=>rfl
 |some o'=>
  rcases u.fr b o' e with z|z|⟨ys,z⟩
  ·rw[n1] at z;cases z
  ·rw[n2] at z;cases z
  ·subst z;have w:=u.fh _ _ e;rw[u.hh _ _ n2] at w;cases w;exact absurd rfl (n3 ys)
theorem Dp.stay(d:Dp K F1 H1 S v p)(u:Up F1 H1 F2 H2):Dp K F2 H2 S v p:=d.up u.ff (λb o _ q=>u.hh b o q) λb ys q=>u.hh b _ q
def uy(F H:Hp)(S:Addr->Prop):Hp:=λb=>@ite _ (S b\/∃ ys,H b=some (.tup ys)) (Classical.propDecidable _) (H b) (F b)
theorem fU{b:Addr}(h:S b\/∃ ys,H b=some (.tup ys)):uy F H S b=H b:=@if_pos _ (Classical.propDecidable _) h _ _ _
theorem eY{b:Addr}(h:¬(S b\/∃ ys,H b=some (.tup ys))):uy F H S b=F b:=@if_neg _ (Classical.propDecidable _) h _ _ _
theorem iW(s:aP F H):aP F (uy F H S):=λb o e=>by
 by_cases h:S b\/∃ ys,H b=some (.tup ys)
 ·rw[fU h];exact s b o e
 ·rw[eY h];exact e
theorem qZ(s:aP F H):aP (uy F H S) H:=λb o e=>by
 by_cases h:S b\/∃ ys,H b=some (.tup ys)
 ·rw[fU h] at e;exact e
 ·rw[eY h] at e;exact s b o e
theorem Ny(d:Dp K F H S v p)(s:aP F H):Rep K (uy F H S) v p:=
 d.seen (iW s) (λb o q e=>by rw[fU (.inl q)];exact e) λb ys e=>by rw[fU (.inr ⟨ys,e⟩)];exact e
def vW(fe:Fn PV):Fn PV:=λρ=>bnd (fe ρ) λp=>if p.still=true then some (.ok p) else none
theorem Du{fe:Fn PV}(h:MJ K C (aF K) te fe):MD K C te (vW fe):=by
 intro F H σ ρ Q r R e P;rcases bK e with⟨z,e1,rfl⟩|⟨p,e1,hk⟩
 ·exact h F H σ ρ Q _ R e1 P
 ·split at hk
  ·rename_i hp;cases hk;exact h F H σ ρ Q _ R e1 λv F' H' u w=>P v F' H' (λ_=>False) u (.fr w hp) λb q=>q.elim
  ·cases hk
theorem Rh{t:TA}{fe:Fn (List PV)}{m:List PV->Option (Res PV)}(h:MA K C t fe):MD K C (lX (spD K C.XR m) [] C.E t) (bJ m fe):=by
 intro F H σ ρ Q r R e P;refine h.run R e P λl xs F1 H1 hk u a=>?_;refine⟨l,F1,r,u.fh,by rw[ZaJ];exact a,hk,?_⟩
 cases r with
 |ok p=>exact λv F' H' S u' d n=>P v F' H' S (u.trans u') d λb q=>⟨u.hh.free (n b q).1,(n b q).2⟩
 |ex z=>exact λe d F' H' u' x=>P e d F' H' (u.trans u').ff (R.rb.up (u.trans u')) x
def Dps(K:PySem.W.Frag)(F H:Hp)(S:Nat->Addr->Prop)(xs:List V)(l:List PV):Prop:=
 xs.length=l.length/\(∀ i j b,S i b->S j b->i=j)/\∀ (j:Nat) x p,xs[j]?=some x->l[j]?=some p->Dp K F H (S j) x p
def Ay(i:Nat)(ρ:Rho):Option PV:=match ρ[i]? with
 |some (some (.dp p))=>some p
 |_=>none
theorem gU{i:Nat}{p:PV}(h:Ay i ρ=some p):ρ[i]?=some (some (.dp p)):=by
 unfold Ay at h;split at h
 ·rename_i q hq;cases h;exact hq
 ·cases h
theorem RE.Yd{C:Cf}(R:RE K C F H σ ρ)(i:Nat)(u:Up F H F1 H1)(d:Dp K F1 H1 S v p)(n:New H F1 H1 S)(nw:C.nw):RE K C F1 H1 (σ.set i (some v)) (ρ.set i (some (.dp p))) where
 rb:=R.rb.up u
 len:=by simp[R.len]
 sh:=λj q e=>by
  rcases get_set e with⟨e1,e2⟩|⟨e1,e2⟩
  ·cases e2
  ·obtain⟨w,e3,e4⟩:=(R.up u).sh j q e2;exact⟨w,by rw[Zak e1];exact e3,e4⟩
 ow:=λj q e=>by
  rcases get_set e with⟨e1,e2⟩|⟨e1,e2⟩
  ·cases e2
  ·obtain⟨w,e3,e4⟩:=(R.up u).ow j q e2;exact⟨w,by rw[Zak e1];exact e3,e4⟩
 dis:=λj k q q' b e e' f f'=>by
  rcases get_set e with⟨e1,e2⟩|⟨e1,e2⟩
  ·cases e2
  ·rcases get_set e' with⟨e1',e2'⟩|⟨e1',e2'⟩
   ·cases e2'
   ·rw[Zak e1] at f;rw[Zak e1'] at f';exact R.dis j k q q' b e2 e2' f f'
 dd:=by
  obtain⟨P,d0⟩:=R.dd;have d1:=d0.up u;refine⟨λj b=>if j=i then S b else P j b,λj b q=>?_,λj k b a1 a2=>?_,λj k q b z e f=>?_,λj q e=>?_⟩
  ·by_cases hj:j=i
   ·simp only[hj,ZbI] at q;obtain⟨c1,c2,c3⟩:=n b q;exact⟨c2,c3,nw,R.rb.t7 c1⟩
   ·simp only[hj,Zbh] at q;exact d1.own j b q
  ·by_cases hj:j=i<;>by_cases hk:k=i
   ·rw[hj,hk]
   ·simp only[hj,hk,ZbI,Zbh] at a1 a2;obtain⟨_,⟨o,c,_⟩,_⟩:=d0.own k b a2;rw[(n b a1).1] at c;cases c
   ·simp only[hj,hk,ZbI,Zbh] at a1 a2;obtain⟨_,⟨o,c,_⟩,_⟩:=d0.own j b a1;rw[(n b a2).1] at c;cases c
   ·simp only[hj,hk,Zbh] at a1 a2;exact d0.dis j k b a1 a2
  ·rcases get_set e with⟨e1,e2⟩|⟨e1,e2⟩
   ·cases e2
   ·rw[Zak e1] at f;by_cases hj:j=i
    ·simp only[hj,ZbI] at z;exact R.apart (n b z).1 k q e2 f
    ·simp only[hj,Zbh] at z;exact d0.ow j k q b z e2 f
  ·rcases get_set e with⟨e1,e2⟩|⟨e1,e2⟩
   ·subst e1;cases e2;have:=cz e;refine⟨v,by rw[ZaT (by rw[R.len];simpa using this)],?_⟩
    simp only[ZbI];exact d
   ·obtain⟨w,e3,e4⟩:=d1.dp j q e2;refine⟨w,by rw[Zak e1];exact e3,?_⟩
    simp only[ZaX e1,Zbh];exact e4
def vX(i:Nat)(fe:Fn PV):Sn:=λρ=>fP (fe ρ) λp=>some (.nx (ρ.set i (some (.dp p))))
theorem uI{i:Nat}{fe:Fn PV}(nw:C.nw)(h:MD K C te fe):MS K C (LK te (u9 i)) (vX i fe):=by
 intro F H σ ρ D o R e P;rcases b7 e with⟨z,e1,rfl⟩|⟨p,e1,hk⟩
 ·exact h F H σ ρ _ _ R e1 P
 ·cases hk;exact h F H σ ρ _ _ R e1 λv F1 H1 S u d n=>P F1 H1 _ u.ff (R.Yd i u d n nw)
theorem RE.W6{C:Cf}(R:RE K C F H σ ρ){i:Nat}(e:ρ[i]?=some (some (.dp p))):∃ S v,σ[i]?=some (some v)/\Dp K F H S v p/\(∀ b,S b->F b=none/\(∃ o,H b=some o/\∀ ys,o≠.tup ys)/\C.H0 b=none)/\RE K C (uy F H S) H σ (ρ.set i (some (.sh p))):=by
 obtain⟨P,d⟩:=R.dd;obtain⟨v,e1,e2⟩:=d.dp i p e;have li:=cz e;have sf:aP F (uy F H (P i)):=iW R.rb.sub;refine⟨P i,v,e1,e2,λb q=>⟨(d.own i b q).1,(d.own i b q).2.1,(d.own i b q).2.2.2⟩,⟨⟨qZ R.rb.sub,R.rb.keep,λb o q=>?_,R.rb.ios⟩,by simp[R.len],λj q f=>?_,λj q f=>?_,λj k q q' b f f' g g'=>?_,?_⟩⟩
 ·by_cases h:P i b\/∃ ys,H b=some (.tup ys)
  ·rw[fU h] at q;rcases h with h|⟨ys,h⟩
   ·exact .inr (.inl (d.own i b h).2.2.2)
   ·rw[h] at q;cases q;exact .inr (.inr ⟨ys,rfl⟩)
  ·rw[eY h] at q;exact R.rb.new b o q
 ·rcases get_set f with⟨f1,f2⟩|⟨f1,f2⟩
  ·subst f1;cases f2;exact⟨v,e1,Ny e2 R.rb.sub⟩
  ·obtain⟨w,g1,g2⟩:=R.sh j q f2;exact⟨w,g1,g2.up sf⟩
 ·rcases get_set f with⟨f1,f2⟩|⟨f1,f2⟩
  ·cases f2
  ·obtain⟨b,g1,g2,g3,g4⟩:=R.ow j q f2;refine⟨b,g1,g2.up sf λ_ z=>z,?_,g4⟩;rw[eY]
   ·exact g3
   ·rintro(z|⟨ys,z⟩)
    ·exact d.ow i j q b z f2 g1
    ·exact g2.t6 z
 ·rcases get_set f with⟨f1,f2⟩|⟨f1,f2⟩
  ·cases f2
  ·rcases get_set f' with⟨f1',f2'⟩|⟨f1',f2'⟩
   ·cases f2'
   ·exact R.dis j k q q' b f2 f2' g g'
 ·refine⟨λj b=>j≠i/\P j b,λj b z=>?_,λj k b a1 a2=>d.dis j k b a1.2 a2.2,λj k q b z f g=>?_,λj q f=>?_⟩
  ·obtain⟨c1,c2,c3⟩:=d.own j b z.2;refine⟨?_,c2,c3⟩;rw[eY]
   ·exact c1
   ·rintro(y|⟨ys,y⟩)
    ·exact z.1 (d.dis j i b z.2 y)
    ·obtain⟨o,c4,c5⟩:=c2;rw[y] at c4;cases c4;exact c5 ys rfl
  ·rcases get_set f with⟨f1,f2⟩|⟨f1,f2⟩
   ·cases f2
   ·exact d.ow j k q b z.2 f2 g
  ·rcases get_set f with⟨f1,f2⟩|⟨f1,f2⟩
   ·cases f2
   ·obtain⟨w,g1,g2⟩:=d.dp j q f2;refine⟨w,g1,(g2.up sf (λ_ _ _ q=>q) λ_ _ q=>q).mono λb z=>⟨ZaX f1,z⟩⟩
def sY(i:Nat):Sn:=λρ=>match Ay i ρ with
 |some p=>some (.rd p)
 |none=>none
theorem Nz(i:Nat):MS K C (JX (iZ i)) (sY i):=by
 intro F H σ ρ D o R e P;unfold sY at e;split at e
 ·rename_i p hp;cases e;obtain⟨S,v,e1,e2,e3,_⟩:=R.W6 (gU hp);exact⟨_,e1,P v F H S (aP.refl _) R.rb e2 e3⟩
 ·cases e
end
section
variable{K:PySem.W.Frag}{C:Cg}{F H:Hp}{σ:St}{ρ:Rho}{f g:Sn}{o:Out}{S:Addr->Prop}{v:V}{p:PV}
theorem Dp.bZ{l:List PV}(d:Dp K F H S v (.lst l)):∃ (T:Nat->Addr->Prop) (a:Addr) (xs:List V),v=.ref a/\H a=some (.lst xs)/\S a/\(∀ j b,T j b->S b/\b≠a)/\Dps K F H T xs l:=by
 cases d with
 |fr h st=>cases st
 |lst h hp hs dj hl hr=>exact⟨_,_,_,rfl,h,hp,hs,hl,dj,hr⟩
theorem RE.NB{C:Cf}(R:RE K C F H σ ρ){P:Nat->Addr->Prop}(d:RD K C F H σ ρ P){i:Nat}(e:ρ[i]?=some (some (.dp p)))(e1:σ[i]?=some (some v)){a:Addr}{ob:HO}(ha:P i a)(ho:∀ ys,ob≠.tup ys){p':PV}{S':Addr->Prop}
  (hd:Dp K F (upd H a ob) S' v p')(hS:∀ b,S' b->P i b\/(F b=none/\(∃ o,H b=some o/\∀ ys,o≠.tup ys)/\C.nw/\C.H0 b=none/\(∀ j,¬P j b)/\∀ (j:Nat) q,ρ[j]?=some (some (.ow q))->σ[j]?≠some (some (.ref b)))) :
  RE K C F (upd H a ob) σ (ρ.set i (some (.dp p'))):=by
 obtain⟨c1,⟨oa,c2,c3⟩,c4,c5⟩:=d.own i a ha;have hio:¬C.io a:=λz=>(R.rb.ios a z).2 c5;refine⟨⟨λb o q=>by rw[aq (λz=>by subst z;rw[c1] at q;cases q)];exact R.rb.sub b o q,λb o q z=>by rw[aq (λy=>by subst y;rw[c5] at q;cases q)];exact R.rb.keep b o q z,R.rb.new,λb z=>?_⟩,by simp[R.len],λj q f=>?_,λj q f=>?_,λj k q q' b f f' g g'=>?_,?_⟩
 ·refine⟨?_,(R.rb.ios b z).2⟩;rw[aq (λy=>by subst y;exact hio z)];exact(R.rb.ios b z).1
 ·rcases get_set f with⟨f1,f2⟩|⟨f1,f2⟩
  ·cases f2
  ·exact R.sh j q f2
 ·rcases get_set f with⟨f1,f2⟩|⟨f1,f2⟩
  ·cases f2
  ·obtain⟨b,g1,g2,g3,g4⟩:=R.ow j q f2;have nb:b≠a:=λz=>by subst z;exact d.ow i j q b ha f2 g1
   refine⟨b,g1,?_,g3,g4⟩;cases q with
   |lst l=>obtain⟨xs,k1,k2⟩:=g2;exact⟨xs,by rw[aq nb];exact k1,k2⟩
   |dk l=>obtain⟨xs,k1,k2⟩:=g2;exact⟨xs,by rw[aq nb];exact k1,k2⟩
   |dt l=>obtain⟨xs,k1,k2⟩:=g2;exact⟨xs,by rw[aq nb];exact k1,k2⟩
   |_=>exact g2.elim
 ·rcases get_set f with⟨f1,f2⟩|⟨f1,f2⟩
  ·cases f2
  ·rcases get_set f' with⟨f1',f2'⟩|⟨f1',f2'⟩
   ·cases f2'
   ·exact R.dis j k q q' b f2 f2' g g'
 ·have up:∀ b o,H b=some o->(∀ ys,o≠.tup ys)->∃ o',upd H a ob b=some o'/\∀ ys,o'≠.tup ys:=λb o q z=>by
   by_cases h:b=a
   ·subst h;exact⟨ob,au,ho⟩
   ·exact⟨o,by rw[aq h];exact q,z⟩
  refine⟨λj b=>if j=i then S' b else P j b,λj b z=>?_,λj k b a1 a2=>?_,λj k q b z f g=>?_,λj q f=>?_⟩
  ·by_cases hj:j=i
   ·simp only[hj,ZbI] at z;rcases hS b z with w|⟨w1,⟨o,w2,w2'⟩,w3,w4,_⟩
    ·obtain⟨k1,⟨o,k2,k3⟩,k4⟩:=d.own i b w;exact⟨k1,up b o k2 k3,k4⟩
    ·exact⟨w1,up b o w2 w2',w3,w4⟩
   ·simp only[hj,Zbh] at z;obtain⟨k1,⟨o,k2,k3⟩,k4⟩:=d.own j b z;exact⟨k1,up b o k2 k3,k4⟩
  ·by_cases hj:j=i<;>by_cases hk:k=i
   ·rw[hj,hk]
   ·simp only[hj,hk,ZbI,Zbh] at a1 a2;rcases hS b a1 with w|⟨_,_,_,_,w,_⟩
    ·rw[hj];exact d.dis i k b w a2
    ·exact absurd a2 (w k)
   ·simp only[hj,hk,ZbI,Zbh] at a1 a2;rcases hS b a2 with w|⟨_,_,_,_,w,_⟩
    ·rw[hk];exact d.dis j i b a1 w
    ·exact absurd a1 (w j)
   ·simp only[hj,hk,Zbh] at a1 a2;exact d.dis j k b a1 a2
  ·rcases get_set f with⟨f1,f2⟩|⟨f1,f2⟩
   ·cases f2
   ·by_cases hj:j=i
    ·simp only[hj,ZbI] at z;rcases hS b z with w|⟨_,_,_,_,_,w⟩
     ·exact d.ow i k q b w f2 g
     ·exact w k q f2 g
    ·simp only[hj,Zbh] at z;exact d.ow j k q b z f2 g
  ·rcases get_set f with⟨f1,f2⟩|⟨f1,f2⟩
   ·subst f1;cases f2;refine⟨v,e1,?_⟩;simp only[ZbI];exact hd
   ·obtain⟨w,g1,g2⟩:=d.dp j q f2;refine⟨w,g1,?_⟩;simp only[ZaX f1,Zbh];refine g2.up (aP.refl _) (λb o z q=>?_) λb ys q=>?_
    ·rw[aq (λy=>by subst y;exact f1 (d.dis i j b ha z))];exact q
    ·rw[aq (λy=>by subst y;rw[c2] at q;cases q;exact c3 ys rfl)];exact q
end
section
variable{K:PySem.W.Frag}{F H:Hp}{o:Out}{S:Addr->Prop}{v:V}{p:PV}
theorem Dp.snoc{b:Addr}{T:Nat->Addr->Prop}{ys:List V}{row:List PV}{q:PV}(e:H b=some (.lst ys))(sb:S b)(ht:∀ j c,T j c->S c/\c≠b)(d:Dps K F H T ys row)(r:Rep K F v q)(st:q.still=true):Dp K F (upd H b (.lst (ys++[v]))) S (.ref b) (.lst (row++[q])):=by
 refine .lst (S:=λj c=>j<ys.length/\T j c) au sb (λj c z=>ht j c z.2) (λi j c z z'=>d.2.1 i j c z.2 z'.2) (by simp[d.1]) λj x p e1 e2=>?_
 by_cases hj:j<ys.length
 ·rw[Zaj hj] at e1;rw[Zaj (by rw[<-d.1];exact hj)] at e2
  refine((d.2.2 j x p e1 e2).up (aP.refl _) (λc o z e=>by rw[aq (ht j c z).2];exact e) λc zs e'=>?_).mono λc z=>⟨hj,z⟩
  rw[aq (λw=>by subst w;rw[e] at e';cases e')];exact e'
 ·rw[Zau (by omega)] at e1
  rw[Zau (by rw[<-d.1];omega)] at e2
  have ej:j=ys.length:=by
   have:=cz e1;simp at this;omega
  rw[ej,Nat.sub_self] at e1;rw[ej,d.1,Nat.sub_self] at e2;cases e1;cases e2;exact .fr r st
end
def Kz:Option Out->Option (Res PV)
 |some (.rd p)=>some (.ok p)
 |some (.ex z)=>some (.ex z)
 |_=>none
section
variable{K:PySem.W.Frag}{XR:Hp->Value->Option Addr->PV->Prop}{N:List Str}{vs:List V}{H:Hp}{Q:VK}{E:XK}{t:TS}{b:Sn}{m:List PV->Option (Res PV)}
theorem Iw{k n:Nat}(hk:N.length=k+n)(hm:∀ ps r,m ps=some r->ps.length=k/\Kz (b (startR ps n))=some r)(h:spD K XR0 m vs H Q E)(hS:∀ (io:Addr->Prop) (H0 F0:Hp),(∀ a,¬io a)->MS K (C0 io H0 F0) t b) :
  t { nx:=λ_ H'=>Q .non H',rt:=Q } (start N vs) H:=by
 obtain⟨ps,F,r,s,rp,e,P⟩:=h;obtain⟨hl,e⟩:=hm ps r e;have R:=qQ (E:=E0) (N:=N) (n:=n) s rp (by rw[rp.1,hl];exact hk)
 have up:∀ {F' H':Hp},aP F F'->RB ⟨λ_=>False,True,H,F,E0⟩ F' H'->Up F H F' H':=λs' rb=>⟨s',λc o q=>rb.keep c o q id,rb.new,rb.sub⟩;have M:=hS (λ_=>False) H F (λ_ h=>h);cases ho:b (startR ps n) with
 |none=>rw[ho] at e;cases e
 |some o=>
  rw[ho] at e;refine M F H _ _ _ o R ho ?_;cases o with
  |rd p=>cases e;exact λv F' H' S s' rb d n=>P v F' H' S (up s' rb) d λb q=>⟨(n b q).2.2,(n b q).1,(n b q).2.1⟩
  |ex z=>exact λ_ _ _ _ _ _ x=>x.elim
  |nx ρ=>cases e
  |rt p=>cases e
  |ro p=>cases e
  |bk ρ=>cases e
  |ct ρ=>cases e
theorem Iz(h:spD K XR m vs H Q E){k:Nat}(hm:∀ ps r,m ps=some r->ps.length=k):vs.length=k:=by
 obtain⟨ps,F,r,s,rp,e,P⟩:=h;rw[rp.1];exact hm ps r e
end
end L2.MP
namespace L2
open PySem PySem.Spec PyProof PyProof.Rows
def Itz(K:PySem.W.Frag)(a b:Addr):It:=
 ⟨λi H=>∃ xs ys x y,SqL K H a xs/\SqL K H b ys/\xs[i]?=some x/\ys[i]?=some y,
  λi H x H'=>∃ p u v,H p=none/\x=.ref p/\H'=upd H p (.tup [u,v])/\(∀ xs,SqL K H a xs->xs[i]?=some u)/\∀ ys,SqL K H b ys->ys[i]?=some v,
  λi H=>∃ xs ys,SqL K H a xs/\SqL K H b ys/\(xs.length<=i\/ys.length<=i)⟩
theorem NK{P:Program}{w:World}{K:PySem.W.Frag}{elts:List Expr}{x1:Nat}{pos:Pos}(a b z TI TO i1 i2:Addr)(D:ZipApart z TI TO i1 i2 a b) :
  Turn P w K (.Tuple elts x1 pos) (Itz K a b) [z,TO,i1,i2,TI] z (λi h=>IsZip h z TI TO .none/\IsPair h TI (.ref i1) (.ref i2)/\(∃ c d,IsPair h TO c d)/\h.IsListIter i1 a i/\h.IsListIter i2 b i) where
 mem:=by simp
 obj:=λi h st c hc=>by
  obtain⟨hz,hTI,⟨c',d',hTO⟩,⟨o1,e1,_,d1⟩,⟨o2,e2,_,d2⟩⟩:=st;simp only[Zaw,List.not_mem_nil,or_false] at hc;rcases hc with rfl|rfl|rfl|rfl|rfl
  ·exact⟨_,hz,λv q=>by cases q⟩
  ·exact⟨_,hTO,λv q=>by cases q⟩
  ·exact⟨o1,e1,λv q=>by rw[d1] at q;cases q⟩
  ·exact⟨o2,e2,λv q=>by rw[d2] at q;cases q⟩
  ·exact⟨_,hTI,λv q=>by cases q⟩
 keep:=λi h h' st k=>by
  obtain⟨hz,hTI,⟨c',d',hTO⟩,h1,h2⟩:=st;exact⟨k z (by simp) _ hz,k TI (by simp) _ hTI,⟨c',d',k TO (by simp) _ hTO⟩,h1.at λo q=>k i1 (by simp) o q,h2.at λo q=>k i2 (by simp) o q⟩
 item:=by
  intro X hP hw hK hc i pins s σ H E I hf st hg;subst hP hw hK;obtain⟨xs,ys,x,y,hq,hq',hx,hy⟩:=hg;obtain⟨its,rv,p,_⟩:=I.list hq;obtain⟨its',rv',p',_⟩:=I.list hq';obtain⟨u,hu,ru⟩:=rv.get hx;obtain⟨u',hu',ru'⟩:=rv'.get hy;obtain⟨hz,hTI,⟨c',d',hTO⟩,h1,h2⟩:=st;refine wpAny_pyNext_zip_item D hz hTI hTO h1 h2 p.isList p'.isList (by rw[List.getElem?_toArray];exact hu) (by rw[List.getElem?_toArray];exact hu') λh3 z3 t3 i3 j3 n3 sz3 k3=>?_
  refine⟨_,rfl,wpAny_letOwnedTupleGo_zip z3 λh4 z4 s4=>?_⟩;have zlt:z<s.heap.objs.size:=Zam hz;have hT2:IsPair h4 s.heap.objs.size u u':=(s4.2 _ (ZbX zlt)).trans n3;have flt:∀ b'∈[z,TO,i1,i2,TI],b'<s.heap.objs.size:=λb' hb=>by
   obtain⟨o1,e1,_⟩:=h1;obtain⟨o2,e2,_⟩:=h2;simp only[Zaw,List.not_mem_nil,or_false] at hb;rcases hb with rfl|rfl|rfl|rfl|rfl
   ·exact zlt
   ·exact Zam hTO
   ·exact Zam e1
   ·exact Zam e2
   ·exact Zam hTI
  refine⟨.ref s.heap.objs.size,upd H s.heap.objs.size (.tup [x,y]),I.sV (ch:=[z,TO,i1,i2,TI]) (λb' o hb q=>?_) hf (Zai _) ⟨by show 2<=sizeLine;decide,[u,u'],.cons ru (.cons ru' .nil),fu.mk hT2⟩,rfl,⟨_,x,y,I.hok.fresh (Zai _),rfl,rfl,λzs hz'=>by rw[I.mH hz' hq];exact hx,λzs hz'=>by rw[I.mH hz' hq'];exact hy⟩,⟨z4,?_,⟨u,u',(s4.2 _ D.TOz).trans t3⟩,i3.at λo q=>(s4.2 i1 D.i1z).trans q,j3.at λo q=>(s4.2 i2 D.i2z).trans q⟩,λb' hb=>?_⟩
  ·have q1:b'≠z:=λe=>hb (by simp[e])
   have q2:b'≠TO:=λe=>hb (by simp[e])
   have q3:b'≠i1:=λe=>hb (by simp[e])
   have q4:b'≠i2:=λe=>hb (by simp[e])
   exact(s4.2 b' q1).trans (k3 b' o q1 q2 q3 q4 q)
  ·exact(s4.2 _ D.TIz).trans (k3 TI _ D.TIz D.TITO D.TIi1 D.TIi2 hTI)
  ·rw[aq (ZaD (flt b' hb))];exact(hf b' hb).1
 done:=by
  intro X hP hw hK hc i pins s σ H E I hf st hg;subst hP hw hK;obtain⟨xs,ys,hq,hq',hx⟩:=hg;obtain⟨its,rv,p,_⟩:=I.list hq;obtain⟨its',rv',p',_⟩:=I.list hq';obtain⟨hz,hTI,⟨c',d',hTO⟩,h1,h2⟩:=st;have ln:=rv.length;have ln':=rv'.length;refine wpAny_pyNext_zip_end (I.ok.hd hc) D hz hTI hTO h1 h2 p.isList p'.isList (hx.imp (λq=>by rw[List.getElem?_toArray];exact List.getElem?_eq_none_iff.mpr (by lia)) λq=>by rw[List.getElem?_toArray];exact List.getElem?_eq_none_iff.mpr (by lia)) λh' k=>⟨rfl,?_⟩
  exact I.qC (t':=s.toks) (ch:=[z,TO,i1,i2,TI]) (λb' o hb q=>k b' o (λe=>hb (by simp[e])) (λe=>hb (by simp[e])) (λe=>hb (by simp[e])) (λe=>hb (by simp[e])) q) hf
 self:=λA i s Q E st h=>wpAny_pyIter_zip st.1 h
def W7(K:PySem.W.Frag)(ta:TA):TI:=λσ H R=>ta σ H λvs H1=>∃ a b,vs=[.ref a,.ref b]/\(∃ xs,SqL K H1 a xs)/\(∃ ys,SqL K H1 b ys)/\R (Itz K a b) H1
theorem Vi{X:Cx}{l m:Expr}{ta:TA}{elts:List Expr}{x1:Nat}{tpos p pos:Pos}(hg:Gl X "zip")(hm:X.mg "zip"=none)(ha:PA X [l,m] ta)(hs:starEach [l,m] X.env=(false,eval l X.env)::starEach [m] X.env:=by rfl)(hs2:starEach [m] X.env=[(false,eval m X.env)]:=by rfl) :
  PI X (.Tuple elts x1 tpos) (.Call (.Name "zip" p) [l,m] [] pos) (W7 X.K ta):=by
 intro pins s σ H R I h;refine Call_ (pI I hg hm boot_zip (Zbq (thn (ha pos pins s σ H _ I h) ?_) hs (by rw[hs2];rfl)))
 rintro us s1 ⟨vs,H1,I1,r1,q1⟩;obtain⟨a,b,e,⟨xs,hq⟩,⟨ys,hq'⟩,q⟩:=q1;subst e;cases r1 with
 |cons r rr=>
  cases rr with
  |cons r' rr=>
   cases rr;cases r;cases r';obtain⟨its,rv,p,_⟩:=I1.list hq;obtain⟨its',rv',p',_⟩:=I1.list hq';have la:a<s1.heap.objs.size:=by obtain⟨o,e,_⟩:=p.isList;exact Zam e
   have lb:b<s1.heap.objs.size:=by obtain⟨o,e,_⟩:=p'.isList;exact Zam e
   refine call_zip_2 p.isList p'.isList λh1 hz hTI hTO hi1 hi2 hsz hk=>?_;refine wpAny_pyIter_zip hz ?_;have I2:Inv X pins σ H1 { s1 with heap:=h1 }:=I1.kept (t':=s1.toks) hk;refine⟨_,[s1.heap.objs.size+4,s1.heap.objs.size+3,s1.heap.objs.size,s1.heap.objs.size+1,s1.heap.objs.size+2],_,_,H1,rfl,I2,NK a b _ _ _ _ _ (zipApart_new la lb),⟨hz,hTI,⟨_,_,hTO⟩,hi1,hi2⟩,λc hc=>?_,q⟩;have:s1.heap.objs.size<=c:=by
    simp only[Zaw,List.not_mem_nil,or_false] at hc;rcases hc with rfl|rfl|rfl|rfl|rfl
    ·exact Nat.le_add_right _ 4
    ·exact Nat.le_add_right _ 3
    ·exact Zai _
    ·exact Nat.le_add_right _ 1
    ·exact Nat.le_add_right _ 2
   exact I1.CJ this (I1.hok.fresh this)
namespace MP
def Hk(l m:List PV):List PV:=(l.zip m).map λc=>.tup [c.1,c.2]
def NP:List PV->Option (Res (List PV))
 |[.lst l,.lst m]=>some (.ok (Hk l m))
 |_=>none
section
variable{K:PySem.W.Frag}{C:Cg}{tA:TA}
theorem Vj{f:Fn (List PV)}(h:MA K C tA f):MI K C (W7 K tA) (m1 NP f):=by
 intro F H σ ρ R' r R e P;refine h.run R e P λl xs F1 H1 hk u a=>?_;have inv:∃ l' m,l=[.lst l',.lst m]:=by
  clear P u a
  rcases l with _|⟨x,_|⟨y,_|⟨z,l⟩⟩⟩<;>first|exact noS hk|(cases x<;>first|exact noS hk|(cases y<;>first|exact noS hk|exact⟨_,_,rfl⟩))
 obtain⟨l,m,rfl⟩:=inv;cases hk;obtain⟨v,ys,rfl,r1,r2⟩:=a.cV;obtain⟨v',ys',rfl,r2',r3⟩:=r2.cV;cases r3.gQ;obtain⟨b,xs,rfl,h1,r1⟩:=Rep.bZ r1;obtain⟨b',xs',rfl,h2,r2⟩:=Rep.bZ r2';have hl:(Hk l m).length=min l.length m.length:=by simp[Hk]
 refine⟨b,b',rfl,⟨xs,u.fh.seq h1⟩,⟨xs',u.fh.seq h2⟩,P _ F1 H1 u ⟨λF' H' s s'=>?_,λi F' H' hi s s'=>?_,λi F' H' x H'' hi s s' y=>?_⟩⟩
 ·refine⟨xs,xs',(s.trans s').seq h1,(s.trans s').seq h2,?_⟩;rw[hl,r1.1,r2.1];lia
 ·rw[hl] at hi;exact⟨xs,xs',xs[i]'(by rw[r1.1];lia),xs'[i]'(by rw[r2.1];lia),(s.trans s').seq h1,(s.trans s').seq h2,by simp,by simp⟩
 ·obtain⟨p,y,y',hp,rfl,rfl,hy,hy'⟩:=y;have e:=hy xs ((s.trans s').seq h1);have e':=hy' xs' ((s.trans s').seq h2);obtain⟨q,e2,rq⟩:=r1.got e;obtain⟨q',e2',rq'⟩:=r2.got e';have un:=Up.new (o:=.tup [y,y']) s' hp;refine⟨_,.tup [q,q'],un,?_,.tup au rfl λj x p hx hp'=>?_⟩
  ·unfold Hk;rw[List.getElem?_map,show(l.zip m)[i]?=some (q,q') from ZbK.mpr ⟨e2,e2'⟩];rfl
  ·match j with
   |0=>simp at hx hp';subst hx hp';exact rq.up (s.trans un.ff)
   |1=>simp at hx hp';subst hx hp';exact rq'.up (s.trans un.ff)
   |j+2=>simp at hx
end
end MP
def jn:HO->Prop
 |.dK _=>True
 |.dT _=>True
 |_=>False
section
variable{X:Cx}{pins:List (Addr×Obj)}{σ:St}{H:Hp}{s:Shared}{a:Addr}{u:HO}{raw:Obj}
theorem jn.mut(hu:jn u)(e:H a=some u):Mut (H a):=by
 rw[e];cases u<;>first|trivial|exact hu.elim
theorem Vk(I:Inv X pins σ H s)(e:H a=some u)(hu:jn u):∃ raw,s.heap.get? a=some raw:=by
 have:=I.hok a u e;cases u with
 |dK kvs=>obtain⟨_,_,_,_,o,es,ep,h1,_⟩:=this;exact⟨o,h1⟩
 |dT kvs=>obtain⟨_,_,_,_,o,es,ep,h1,_⟩:=this;exact⟨o,h1⟩
 |_=>exact hu.elim
theorem Inv.hold(I:Inv X pins σ H s)(e:H a=some u)(hu:jn u):∃ raw,s.heap.get? a=some raw/\Inv X pins σ (upd H a (.frz raw u)) s:=by
 obtain⟨raw,hr⟩:=Vk I e hu;refine⟨raw,hr,I.write (t':=s.toks) (h':=s.heap) (hu.mut e) (.inl rfl) (λb o _ q=>q) ⟨raw,hr⟩ ⟨hr,?_⟩⟩;refine(I.hok a u e).stay (λb o _ q=>q) (λb q=>?_) λb xs q=>?_
 ·rw[aq (λz=>by subst z;rw[e] at q;cases q;exact hu)];exact q
 ·rw[aq (λz=>by subst z;rw[e] at q;cases q;exact hu)];exact q
theorem Inv.loose(I:Inv X pins σ H s)(e:H a=some (.frz raw u))(hu:jn u)(h0:∀ o v,X.H₀ a≠some (.frz o v)):Inv X pins σ (upd H a u) s where
 ok:=I.ok
 os:=I.os
 bare:=I.bare
 base:={
  keep:=I.base.keep
  slot:=I.base.slot
  free:=λb o q n hx=>by
   have:=I.base.free b o q n hx;rw[aq (λz=>by subst z;rw[e] at this;cases this)];exact this
  there:=I.base.there
  tups:=λb xs q=>by
   have:=I.base.tups b xs q;rw[aq (λz=>by subst z;rw[e] at this;cases this)];exact this
  frzs:=λb o v q=>by
   rw[aq (λz=>by subst z;exact h0 o v q)];exact I.base.frzs b o v q
  tbls:=λb ps q=>by
   obtain⟨more,r⟩:=I.base.tbls b ps q;exact⟨more,by rw[aq (λz=>by subst z;rw[e] at r;cases r)];exact r⟩ }
 loc:=I.loc
 cell:=I.cell
 free:=by rw[aq (λz=>by have:=I.free;rw[z,e] at this;cases this)];exact I.free
 freeC:=λx c q=>by
  have:=I.freeC x c q;rw[aq (λz=>by subst z;rw[e] at this;cases this)];exact this
 pin:=λp hp=>by
  obtain⟨p1,p2,p3⟩:=I.pin p hp;exact⟨p1,by rw[aq (λz=>by rw[z,e] at p2;cases p2)];exact p2,p3⟩
 hok:=λb o q=>by
  have ho:∀ c y,H c=some (.own y)->upd H a u c=some (.own y):=λc y r=>by rw[aq (λz=>by subst z;rw[e] at r;cases r)];exact r
  have ht:∀ c xs,H c=some (.tup xs)->upd H a u c=some (.tup xs):=λc xs r=>by rw[aq (λz=>by subst z;rw[e] at r;cases r)];exact r
  by_cases hb:b=a
  ·subst hb;rw[au] at q;cases q;exact(I.hok b _ e).2.stay (λ_ _ _ q=>q) (λc r=>ho c b r) ht
  ·rw[aq hb] at q;exact(I.hok b o q).stay (λ_ _ _ q=>q) (λc r=>ho c b r) ht
 len:=I.len
def Ends.loose(D:Ends)(a:Addr)(raw:Obj)(u:HO):Ends where
 nx:=λσ H=>H a=some (.frz raw u)/\D.nx σ (upd H a u)
 bk:=λσ H=>H a=some (.frz raw u)/\D.bk σ (upd H a u)
 ct:=λσ H=>H a=some (.frz raw u)/\D.ct σ (upd H a u)
 rt:=λv H=>H a=some (.frz raw u)/\D.rt v (upd H a u)
def TJ(i:Nat)(t:TS):TS:=λD σ H=>∃ a u,σ[i]?=some (some (.ref a))/\jn u/\(((∃ raw,H a=some (.frz raw u))/\t D σ H)\/(H a=some u/\∀ raw,t (D.loose a raw u) σ (upd H a (.frz raw u))))
theorem Ri{st:Stmt}{t:TS}(i:Nat)(h:PS X st t):PS X st (TJ i t):=by
 intro pins s σ H D I q;obtain⟨a,u,_,hu,⟨_,q⟩|⟨e,q⟩⟩:=q
 ·exact h pins s σ H D I q
 ·have h0:∀ o v,X.H₀ a≠some (.frz o v):=λo v z=>by
   have:=I.base.frzs a o v z;rw[e] at this;cases this;exact hu
  obtain⟨raw,_,I2⟩:=I.hold e hu;refine thn (h pins s σ _ _ I2 (q raw)) λf s' r=>?_;cases f with
  |next=>obtain⟨σ',H',I',e',r⟩:=r;exact⟨σ',_,I'.loose e' hu h0,r⟩
  |brk=>obtain⟨σ',H',I',e',r⟩:=r;exact⟨σ',_,I'.loose e' hu h0,r⟩
  |cont=>obtain⟨σ',H',I',e',r⟩:=r;exact⟨σ',_,I'.loose e' hu h0,r⟩
  |ret w=>obtain⟨v,σ',H',I',rv,e',r⟩:=r;exact⟨v,σ',_,I'.loose e' hu h0,rv,r⟩
def NQ(i:Nat)(t:TE):TE:=λσ H Q=>∃ a u,σ[i]?=some (some (.ref a))/\jn u/\(((∃ raw,H a=some (.frz raw u))/\t σ H Q)\/(H a=some u/\∀ raw,t σ (upd H a (.frz raw u)) λv H'=>H' a=some (.frz raw u)/\Q v (upd H' a u)))
theorem uJ{e:Expr}{t:TE}(i:Nat)(h:PE X e t):PE X e (NQ i t):=by
 intro pins s σ H Q I q;obtain⟨a,u,_,hu,⟨_,q⟩|⟨e',q⟩⟩:=q
 ·exact h pins s σ H Q I q
 ·have h0:∀ o v,X.H₀ a≠some (.frz o v):=λo v z=>by
   have:=I.base.frzs a o v z;rw[e'] at this;cases this;exact hu
  obtain⟨raw,_,I2⟩:=I.hold e' hu;refine thn (h pins s σ _ _ I2 (q raw)) λw s' ⟨v,H',I',rv,e2,r⟩=>⟨v,_,I'.loose e2 hu h0,rv,r⟩
end
end L2
namespace L2.MP
open PySem PySem.Spec PyProof.Rows
structure Sw(F F':Hp)(a:Addr)(u:HO):Prop where
 ne:∀ b,b≠a->F' b=F b
 l:Rd F a u
 r:Rd F' a u
 d:jn u
section
variable{K:PySem.W.Frag}{F F' H H':Hp}{a:Addr}{u:HO}{v:V}{p:PV}
theorem Sw.other(w:Sw F F' a u){b:Addr}{o:HO}(e:F b=some o)(h1:¬jn o)(h2:∀ raw x,jn x->o≠.frz raw x):F' b=some o:=by
 rw[w.ne b λz=>?_]
 ·exact e
 ·subst z;rcases w.l with q|⟨raw,q⟩
  ·rw[e] at q;cases q;exact h1 w.d
  ·rw[e] at q;cases q;exact h2 raw u w.d rfl
theorem Sw.rd(w:Sw F F' a u){b:Addr}{o:HO}(h:Rd F b o)(ho:jn o):Rd F' b o:=by
 by_cases hb:b=a
 ·subst hb;have:o=u:=by
   rcases h with h|⟨r,h⟩<;>rcases w.l with q|⟨r',q⟩<;>rw[h] at q<;>cases q
   ·rfl
   ·exact ho.elim
   ·exact w.d.elim
   ·rfl
  rw[this];exact w.r
 ·rcases h with h|⟨r,h⟩
  ·exact .inl (by rw[w.ne b hb];exact h)
  ·exact .inr ⟨r,by rw[w.ne b hb];exact h⟩
theorem Sw.sq(w:Sw F F' a u){b:Addr}{xs:List V}(h:SqL K F b xs):SqL K F' b xs:=by
 rcases h with(h|⟨o,h⟩)|h
 ·exact .inl (.inl (w.other h (λz=>z) λ_ _ _ z=>by cases z))
 ·exact .inl (.inr ⟨o,w.other h (λz=>z) λ_ x hx z=>by cases z;exact hx⟩)
 ·exact .inr h
theorem Rep.sw(w:Sw F F' a u)(h:Rep K F v p):Rep K F' v p:=by
 induction h with
 |non=>exact .non
 |bl=>exact .bl
 |int=>exact .int
 |str=>exact .str
 |ty=>exact .ty
 |tup h hl _ ih=>exact .tup (w.other h (λz=>z) λ_ _ _ z=>by cases z) hl ih
 |lst h hl _ ih=>exact .lst (w.sq h) hl ih
 |dk h hl _ ih=>exact .dk (w.rd h trivial) hl ih
 |dt h hl _ ih=>exact .dt (w.rd h trivial) hl ih
 |exc nm h hd hl _ ih=>exact .exc nm (w.other h (λz=>z) λ_ _ _ z=>by cases z) (w.other hd (λz=>z) λ_ _ _ z=>by cases z) hl ih
 |exc0 nm h=>exact .exc0 nm (w.other h (λz=>z) λ_ _ _ z=>by cases z)
theorem bh.sw{xs:List V}{l:List PV}(w:Sw F F' a u)(h:bh K F xs l):bh K F' xs l:=⟨h.1,λj x p a b=>(h.2 j x p a b).sw w⟩
theorem Own.sw{b:Addr}(w:Sw F F' a u)(e:H' b=H b)(h:Own K F H b p):Own K F' H' b p:=by
 cases p with
 |lst l=>obtain⟨xs,q,r⟩:=h;exact⟨xs,by rw[e];exact q,r.sw w⟩
 |dk l=>obtain⟨xs,q,r,s⟩:=h;exact⟨xs,by rw[e];exact q,r,λj x p a b=>(s j x p a b).sw w⟩
 |dt l=>obtain⟨xs,q,r,s⟩:=h;exact⟨xs,by rw[e];exact q,r,λj x p a b=>(s j x p a b).sw w⟩
 |_=>exact h.elim
theorem Dp.sw{P:Addr->Prop}(w:Sw F F' a u)(wH:Sw H H' a u)(h:Dp K F H P v p):(∀ b,P b->b≠a)->Dp K F' H' P v p:=by
 induction h with
 |fr h st=>exact λ_=>.fr (h.sw w) st
 |lst h hp hs dj hl _ ih=>exact λn=>.lst (by rw[wH.ne _ (n _ hp)];exact h) hp hs dj hl λj x p e1 e2=>ih j x p e1 e2 λb q=>n b (hs j b q).1
 |tup h hs dj hl _ ih=>exact λn=>.tup (wH.other h (λz=>z) λ_ _ _ z=>by cases z) hs dj hl λj x p e1 e2=>ih j x p e1 e2 λb q=>n b (hs j b q)
 |dk h hp hs dj hl _ ih=>exact λn=>.dk (by rw[wH.ne _ (n _ hp)];exact h) hp hs dj hl λj x p e1 e2=>ih j x p e1 e2 λb q=>n b (hs j b q).1
 |dt h hp hs dj hl _ ih=>exact λn=>.dt (by rw[wH.ne _ (n _ hp)];exact h) hp hs dj hl λj x p e1 e2=>ih j x p e1 e2 λb q=>n b (hs j b q).1
theorem RE.sw{C C':Cf}{σ:St}{ρ:Rho}(w:Sw F F' a u)(wH:Sw H H' a u)(fa:F a≠none)(hio:C'.io=C.io)(hnw:C'.nw=C.nw)(h0:∀ b,b≠a->C'.H0 b=C.H0 b)(rb:RB C' F' H')(R:RE K C F H σ ρ):RE K C' F' H' σ ρ where
 rb:=rb
 len:=R.len
 sh:=λi p e=>let⟨v,e1,r⟩:=R.sh i p e;⟨v,e1,r.sw w⟩
 ow:=λi p e=>by
  obtain⟨b,e1,e2,e3,e4⟩:=R.ow i p e;have nb:b≠a:=λz=>by subst z;exact fa e3
  exact⟨b,e1,e2.sw w (wH.ne b nb),by rw[w.ne b nb];exact e3,by rw[hio,hnw,h0 b nb];exact e4⟩
 dis:=R.dis
 dd:=by
  obtain⟨P,d⟩:=R.dd;have nb:∀ i b,P i b->b≠a:=λi b q z=>by subst z;exact fa (d.own i b q).1
  refine⟨P,λi b q=>?_,d.dis,d.ow,λi p e=>?_⟩
  ·obtain⟨c1,⟨o,c2,c3⟩,c4,c5⟩:=d.own i b q;exact⟨by rw[w.ne b (nb i b q)];exact c1,⟨o,by rw[wH.ne b (nb i b q)];exact c2,c3⟩,by rw[hnw];exact c4,by rw[h0 b (nb i b q)];exact c5⟩
  ·obtain⟨v,e1,e2⟩:=d.dp i p e;exact⟨v,e1,e2.sw w wH (nb i)⟩
end
def cH(G:Hp)(a:Addr)(raw:Obj)(u:HO):Hp:=λb=>@ite _ (b=a/\G a=some u) (Classical.propDecidable _) (some (.frz raw u)) (G b)
theorem dG{G:Hp}{a b:Addr}{raw:Obj}{u:HO}(h:b≠a):cH G a raw u b=G b:=@if_neg _ (Classical.propDecidable _) (λz=>h z.1) _ _ _
theorem sZ{G:Hp}{a:Addr}{raw:Obj}{u:HO}(h:G a=some u):cH G a raw u a=some (.frz raw u):=@if_pos _ (Classical.propDecidable _) ⟨rfl,h⟩ _ _ _
theorem pR{G:Hp}{a:Addr}{raw:Obj}{u:HO}(h:G a≠some u):cH G a raw u a=G a:=@if_neg _ (Classical.propDecidable _) (λz=>h z.2) _ _ _
def Vl(F:Hp)(σ:St)(i:Nat):Prop:=∃ a raw u,σ[i]?=some (some (.ref a))/\F a=some (.frz raw u)/\jn u
def MSh(K:PySem.W.Frag)(C:Cg)(i:Nat)(t:TS)(f:Sn):Prop:=∀ F H σ ρ D o,RE K C.toCf F H σ ρ->Vl F σ i->f ρ=some o->PO' K C F D o->t D σ H
def MOh(K:PySem.W.Frag)(C:Cg)(i:Nat)(te:TE)(f:Fn PV):Prop:=
 ∀ F H σ ρ Q r,RE K C.toCf F H σ ρ->Vl F σ i->f ρ=some r->Pr C F (λp=>∀ a F' H',Up F H F' H'->H a=none->F' a=none->Own K F' H' a p->Q (.ref a) H') r->te σ H Q
def yV(i:Nat)(f:Sn):Sn:=λρ=>match ρ[i]? with
 |some (some (.sh p))=>if p.isD=true then(match f ρ with
  |some (.rd _)=>none
  |x=>x) else none
 |_=>none
section
variable{K:PySem.W.Frag}{t:TS}{f:Sn}
theorem IK{io:Addr->Prop}{H0 F0 F H:Hp}{σ:St}{ρ:Rho}{a:Addr}{u:HO}{raw:Obj}(R:RE K (C0 io H0 F0).toCf F H σ ρ)(fa:F a=some u)(hu:jn u) :
  RE K (C0 io (cH H0 a raw u) (cH F0 a raw u)).toCf (upd F a (.frz raw u)) (upd H a (.frz raw u)) σ ρ/\H a=some u:=by
 have ha:=R.rb.sub _ _ fa;have w:Sw F (upd F a (.frz raw u)) a u:=⟨λb hb=>aq hb,.inl fa,.inr ⟨raw,au⟩,hu⟩;have wH:Sw H (upd H a (.frz raw u)) a u:=⟨λb hb=>aq hb,.inl ha,.inr ⟨raw,au⟩,hu⟩;have nt:∀ ys,u≠.tup ys:=λys z=>by subst z;exact hu
 have rb2:RB (C0 io (cH H0 a raw u) (cH F0 a raw u)).toCf (upd F a (.frz raw u)) (upd H a (.frz raw u)):=by
  refine⟨λb o q=>?_,λb o q n=>?_,λb o q=>?_,λb q=>?_⟩
  ·by_cases hb:b=a
   ·subst hb;rw[au] at q ⊢;exact q
   ·rw[aq hb] at q ⊢;exact R.rb.sub b o q
  ·by_cases hb:b=a
   ·subst hb;rw[au];by_cases hh:H0 b=some u
    ·have q:cH H0 b raw u b=some o:=q;rw[sZ hh] at q;exact q
    ·have q:cH H0 b raw u b=some o:=q;rw[pR hh] at q;have:=R.rb.keep b o q n;rw[ha] at this;exact absurd (q.trans this.symm) hh
   ·have q:cH H0 a raw u b=some o:=q;rw[dG hb] at q;rw[aq hb];exact R.rb.keep b o q n
  ·by_cases hb:b=a
   ·subst hb;rw[au] at q;cases q;rcases R.rb.new b u fa with z|z|⟨ys,z⟩
    ·exact .inl (sZ z)
    ·refine .inr (.inl ?_);show cH H0 b raw u b=none
     rw[pR (by rw[show H0 b=none from z];intro y;cases y)];exact z
    ·exact absurd z (nt ys)
   ·rw[aq hb] at q;rcases R.rb.new b o q with z|z|z
    ·exact .inl ((dG hb).trans z)
    ·exact .inr (.inl ((dG hb).trans z))
    ·exact .inr (.inr z)
  ·obtain⟨q1,q2⟩:=R.rb.ios b q;refine⟨?_,?_⟩
   ·by_cases hb:b=a
    ·subst hb;rw[au];intro z;cases z
    ·rw[aq hb];exact q1
   ·show cH H0 a raw u b≠none
    by_cases hb:b=a
    ·subst hb;by_cases hh:H0 b=some u
     ·rw[sZ hh];intro z;cases z
     ·rw[pR hh];exact q2
    ·rw[dG hb];exact q2
 have R2:RE K (C0 io (cH H0 a raw u) (cH F0 a raw u)).toCf (upd F a (.frz raw u)) (upd H a (.frz raw u)) σ ρ:=RE.sw (C:=(C0 io H0 F0).toCf) w wH (by rw[fa];intro z;cases z) rfl rfl (λb hb=>dG hb) rb2 R
 exact⟨R2,ha⟩
theorem Rj{io:Addr->Prop}{H0 F0:Hp}(i:Nat)(h:∀ H0 F0,MSh K (C0 io H0 F0) i t f):MS K (C0 io H0 F0) (TJ i t) (yV i f):=by
 intro F H σ ρ D o R e P;unfold yV at e;split at e
 case h_2=>cases e
 rename_i p hp;split at e
 case isFalse=>cases e
 rename_i hd;obtain⟨e',nrd⟩:f ρ=some o/\∀ q,o≠.rd q:=by
  split at e
  ·cases e
  ·rename_i x hx;exact⟨e,λq z=>by subst z;exact hx q e⟩
 obtain⟨v,ev,rv⟩:=R.sh i p hp;obtain⟨a,u,rfl,rd,hu⟩:∃ a u,v=.ref a/\Rd F a u/\jn u:=by
  cases rv with
  |dk h=>exact⟨_,_,rfl,h,trivial⟩
  |dt h=>exact⟨_,_,rfl,h,trivial⟩
  |_=>cases hd
 refine⟨a,u,ev,hu,?_⟩;rcases rd with fa|⟨raw,fa⟩
 case inr=>exact .inl ⟨⟨raw,R.rb.sub _ _ fa⟩,h H0 F0 F H σ ρ D o R ⟨a,raw,u,ev,fa,hu⟩ e' P⟩
 refine .inr ⟨R.rb.sub _ _ fa,λraw=>?_⟩;have ha:=R.rb.sub _ _ fa;have w:Sw F (upd F a (.frz raw u)) a u:=⟨λb hb=>aq hb,.inl fa,.inr ⟨raw,au⟩,hu⟩;have wH:Sw H (upd H a (.frz raw u)) a u:=⟨λb hb=>aq hb,.inl ha,.inr ⟨raw,au⟩,hu⟩;have nt:∀ ys,u≠.tup ys:=λys z=>by subst z;exact hu
 obtain⟨R2,_⟩:=IK (raw:=raw) R fa hu;have back:∀ {F3 H3:Hp},aP (upd F a (.frz raw u)) F3->RB (C0 io (cH H0 a raw u) (cH F0 a raw u)).toCf F3 H3->H3 a=some (.frz raw u)/\Sw F3 (upd F3 a u) a u/\Sw H3 (upd H3 a u) a u/\aP F (upd F3 a u)/\RB (C0 io H0 F0).toCf (upd F3 a u) (upd H3 a u):=by
  intro F3 H3 s3 rb3;have f3:F3 a=some (.frz raw u):=s3 _ _ au;have h3:=rb3.sub _ _ f3;refine⟨h3,⟨λb hb=>aq hb,.inr ⟨raw,f3⟩,.inl au,hu⟩,⟨λb hb=>aq hb,.inr ⟨raw,h3⟩,.inl au,hu⟩,λb o q=>?_,λb o q=>?_,λb o q n=>?_,λb o q=>?_,λb q=>?_⟩
  ·by_cases hb:b=a
   ·subst hb;rw[au,<-q,fa]
   ·rw[aq hb];exact s3 b o (by rw[aq hb];exact q)
  ·by_cases hb:b=a
   ·subst hb;rw[au] at q ⊢;exact q
   ·rw[aq hb] at q ⊢;exact rb3.sub b o q
  ·by_cases hb:b=a
   ·subst hb;have:=R.rb.keep b o q n;rw[ha] at this;rw[au];exact this
   ·rw[aq hb];exact rb3.keep b o ((dG hb).trans q) n
  ·by_cases hb:b=a
   ·subst hb;rw[au] at q;cases q;exact R.rb.new b u fa
   ·rw[aq hb] at q;rcases rb3.new b o q with z|z|z
    ·exact .inl ((dG hb).symm.trans z)
    ·exact .inr (.inl ((dG hb).symm.trans z))
    ·exact .inr (.inr z)
  ·refine⟨?_,(R.rb.ios b q).2⟩;by_cases hb:b=a
   ·subst hb;rw[au];intro z;cases z
   ·rw[aq hb];exact(rb3.ios b q).1
 have backR:∀ {F3 H3:Hp}{σ3:St}{ρ3:Rho},aP (upd F a (.frz raw u)) F3->RE K (C0 io (cH H0 a raw u) (cH F0 a raw u)).toCf F3 H3 σ3 ρ3->H3 a=some (.frz raw u)/\aP F (upd F3 a u)/\RE K (C0 io H0 F0).toCf (upd F3 a u) (upd H3 a u) σ3 ρ3:=by
  intro F3 H3 σ3 ρ3 s3 R3;obtain⟨b1,b2,b3,b4,b5⟩:=back s3 R3.rb;have f3:F3 a=some (.frz raw u):=s3 _ _ au;exact⟨b1,b4,RE.sw (C:=(C0 io (cH H0 a raw u) (cH F0 a raw u)).toCf) b2 b3 (by rw[f3];intro z;cases z) rfl rfl (λb hb=>(dG hb).symm) b5 R3⟩
 refine h (cH H0 a raw u) (cH F0 a raw u) _ _ σ ρ _ o R2 ⟨a,raw,u,ev,au,hu⟩ e' ?_;cases o with
 |nx ρ3=>exact λF3 H3 σ3 s3 R3=>let⟨b1,b2,b3⟩:=backR s3 R3;⟨b1,P _ _ _ b2 b3⟩
 |bk ρ3=>exact λF3 H3 σ3 s3 R3=>let⟨b1,b2,b3⟩:=backR s3 R3;⟨b1,P _ _ _ b2 b3⟩
 |ct ρ3=>exact λF3 H3 σ3 s3 R3=>let⟨b1,b2,b3⟩:=backR s3 R3;⟨b1,P _ _ _ b2 b3⟩
 |rt q=>exact λv F3 H3 s3 rb3 r=>let⟨b1,b2,b3,b4,b5⟩:=back s3 rb3;⟨b1,P v _ _ b4 b5 (r.sw b2)⟩
 |ro q=>
  intro b F3 H3 s3 rb3 ow nb n0;obtain⟨b1,b2,b3,b4,b5⟩:=back s3 rb3;have f3:F3 a=some (.frz raw u):=s3 _ _ au;have hb:b≠a:=λz=>by subst z;rw[f3] at nb;cases nb
  exact⟨b1,P b _ _ b4 b5 (ow.sw b2 (b3.ne b hb)) (by rw[aq hb];exact nb) ((dG hb).symm.trans n0)⟩
 |rd q=>exact absurd rfl (nrd q)
 |ex z=>exact λ_ _ _ _ _ _ x=>x.elim
end
def Rm(K:PySem.W.Frag)(C:Cg)(i:Nat)(wi:TI)(f:Fn (List PV)):Prop:=
 ∀ F H σ ρ R' r,RE K C.toCf F H σ ρ->Vl F σ i->f ρ=some r->Pr C F (λl=>∀ J F' H',Up F H F' H'->ItR K J F' l->R' J H') r->wi σ H R'
section
variable{K:PySem.W.Frag}{C:Cg}{te:TE}{t:TS}{f:Sn}{F H:Hp}{σ:St}{ρ:Rho}{D:Ends}{o:Out}
theorem Ro{k:Key}:Rep K F (kV k) (W4 k):=by
 cases k with
 |inl i=>exact .int
 |inr z=>exact .str
theorem Rp{i:Nat}{wi:TI}{it:Fn (List PV)}{gt:TG}{tg:PV->Rho->Option Rho}(hi:Rm K C i wi it)(hg:MG K C gt tg)(hb:MS K C t f):MSh K C i (Uq wi gt t) (pO it tg f):=by
 intro F H σ ρ D o R hh e P;rcases b7 e with⟨z,e1,rfl⟩|⟨l,e1,hk⟩
 ·exact hi F H σ ρ _ _ R hh e1 P
 ·exact hi F H σ ρ _ _ R hh e1 λJ F' H' u hJ=>yM hg hb hJ (R.up u) hk (P.up u.ff)
theorem jB{wi:TI}{it:Fn (List PV)}{fr:List (Option Nat)}{gt:TG}{tg:PV->Rho->Option Rho}{T:List Nat}{tc:TT}{tst:Fn Bool}{el:Fn PV}{i0:Nat}(hi:Rm K C i0 wi it)(hg:MG K C gt tg)(hT:Wr T tg)(ht:MT K C tc tst)(he:MJ K C (aF K) te el)
  (hfr:T.all (λj=>fr[j]?==some none)=true:=by rfl):MOh K C i0 (CZ wi fr gt tc te) (jm it fr tg tst el):=by
 intro F H σ ρ Q r R hh e P;rcases bK e with⟨z,e1,rfl⟩|⟨l,e1,hk⟩
 ·exact hi F H σ ρ _ _ R hh e1 P
 split at hk
 case isFalse=>cases hk
 rename_i hlen;refine hi F H σ ρ _ _ R hh e1 λJ F1 H1 u hJ D hD=>?_;have R1:=R.up u;obtain⟨Rb,no⟩:=R1.block fr;have hD0:C.H0 D=none:=R1.rb.t7 hD;have hFD:F1 D=none:=u.fh.free hD;have hρ:∀ (j:Nat),j∈T->(frR fr ρ)[j]?=some none:=λj hj=>by
  have:=Za6.mp hfr j hj;unfold frR;rw[List.getElem?_map,show fr[j]?=some none by simpa using this]
  rfl
 refine⟨λi m σ' H'=>∃ F' ys acc,m=l.length-i/\i<=l.length/\aP F1 F'/\(∀ b o,F' b=some o->F1 b=some o\/Frz H1 b o)/\aP H1 H'/\H' D=some (.lst ys)/\F' D=none/\bh K F' ys acc/\acc.length<=i /\
   RE K C.toCf F' H' σ' (frR fr ρ)/\bnd (dJ tg tst el (frR fr ρ) (l.drop i)) (λr=>some (.ok (.lst (acc++r))))=some r,
  ⟨l.length,F1,[],[],by simp,Zbb _,aP.refl _,λ_ _ q=>.inl q,di hD,au,hFD,.nil,Zai _,Rb.other hFD hD0 no,by rw[Zbo];exact hk⟩,?_⟩
 rintro i m σ' H' ⟨F',ys,acc,rfl,hil,s1,fr1,sH,eD,nD,ra,hacc,R',e'⟩;by_cases hlt:i<l.length
 case neg=>
  have ei:i=l.length:=by omega
  subst ei;rw[List.drop_length] at e';have e':some (Res.ok (PV.lst (acc++[])))=some r:=e';rw[ZaJ] at e';cases e';exact .inl ⟨hJ.stop F' H' s1 R'.rb.sub,P D F' H' (u.trans ⟨s1,sH,fr1,R'.rb.sub⟩) (u.hh.free hD) nD ⟨ys,eD,ra⟩⟩
 refine .inr ⟨hJ.go i F' H' hlt s1 R'.rb.sub,λσ2 H2=>∃ F2 ys acc,aP F1 F2/\(∀ b o,F2 b=some o->F1 b=some o\/Frz H1 b o)/\aP H1 H2/\H2 D=some (.lst ys)/\F2 D=none/\bh K F2 ys acc/\acc.length<=i+1 /\
   RE K C.toCf F2 H2 σ2 (frR fr ρ)/\bnd (dJ tg tst el (frR fr ρ) (l.drop (i+1))) (λr=>some (.ok (.lst (acc++r))))=some r,
  λσ2 H2 ⟨F2,ys,acc,z⟩=>⟨l.length-(i+1),by omega,F2,ys,acc,rfl,hlt,z⟩,λx H'' y=>?_⟩
 obtain⟨F'',p,u2,ep,rx⟩:=hJ.yld i F' H' x H'' hlt s1 R'.rb.sub y;have ed:l.drop i=p::l.drop (i+1):=by
  rw[ZaW hlt];rw[List.getElem?_eq_getElem hlt] at ep;rw[Zab ep]
 rw[ed,dJ] at e';split at e'
 ·cases e'
 rename_i ρ1 h1;obtain⟨w1,w2,w3⟩:=hT p _ ρ1 h1;have no1:=w3 no;have weak:∀ (j:Nat) s,(frR fr ρ)[j]?=some (some s)->ρ1[j]?=some (some s):=λj s ej=>by
  rw[w2 j λz=>by rw[hρ j z] at ej;cases ej];exact ej
 refine hg F'' H'' σ' (frR fr ρ) x p ρ1 _ (R'.up u2) rx h1 λσ1 R1'=>?_;have stay:∀ {F3 H3:Hp},Up F' H' F3 H3->aP F1 F3/\(∀ b o,F3 b=some o->F1 b=some o\/Frz H1 b o)/\aP H1 H3/\H3 D=some (.lst ys)/\F3 D=none/\bh K F3 ys acc:=λ{F3 H3} u3=>by
  refine⟨s1.trans u3.ff,λb o q=>?_,sH.trans u3.hh,u3.hh _ _ eD,?_,ra.up u3.ff⟩
  ·rcases u3.fr b o q with z|z
   ·exact fr1 b o z
   ·exact .inr (z.imp (λz=>sH.free z) id)
  ·cases q:F3 D with
   |none=>rfl
   |some o=>
    rcases u3.fr D o q with z|z|⟨ys,z⟩
    ·rw[nD] at z;cases z
    ·rw[eD] at z;cases z
    ·subst z;have w:=u3.fh _ _ q;rw[u3.hh _ _ eD] at w;cases w
 have Pl:∀ {F3 H3:Hp},Up F' H' F3 H3->∀ {z:PV},r=.ex z->PX C F3 z:=λ{F3 H3} u3 {z} ez=>by
  subst ez;exact PX.up P (u.ff.trans (s1.trans u3.ff))
 rw[iV] at e';rcases bK e' with⟨z',e4,ez⟩|⟨b,e4,e5⟩
 ·exact ht F'' H'' σ1 ρ1 _ _ R1' e4 (Pl u2 ez)
 refine ht F'' H'' σ1 ρ1 _ _ R1' e4 λF3 H3 u3=>?_;have u23:=u2.trans u3;cases b with
 |false=>
  rw[Zae (by decide)] at e5 ⊢
  obtain⟨a1,a2,a3,a4,a5,a6⟩:=stay u23;exact⟨F3,ys,acc,a1,a2,a3,a4,a5,a6,by omega,(R1'.up u3).weak w1.symm weak,e5⟩
 |true=>
  rw[Zag rfl] at e5 ⊢;rw[iV] at e5;rcases bK e5 with⟨z',e6,ez⟩|⟨q,e6,e7⟩
  ·exact he F3 H3 σ1 ρ1 _ _ (R1'.up u3) e6 (Pl u23 ez)
  refine he F3 H3 σ1 ρ1 _ _ (R1'.up u3) e6 λv F4 H4 u4 rv=>?_;have u24:=u23.trans u4;obtain⟨a1,a2,a3,a4,a5,a6⟩:=stay u24;refine⟨ys,a4,by rw[a6.1];omega,F4,ys++[v],acc++[q],a1,a2,yI hD a3,au,a5,a6.snoc rv,by simp;omega,((R1'.up (u3.trans u4)).other a5 hD0 no1).weak w1.symm weak,?_⟩
  rw[iV] at e7;rw[<-e7];congr 1
  funext rr
  show some (Res.ok (PV.lst (acc++[q]++rr)))=some (Res.ok (PV.lst (acc++q::rr)))
  rw[Zax];rfl
def lw(i:Nat)(f:Fn PV):Fn PV:=λρ=>match ρ[i]? with
 |some (some (.sh p))=>if p.isD=true then f ρ else none
 |_=>none
theorem uK{io:Addr->Prop}{H0 F0:Hp}{fe:Fn PV}(i:Nat)(h:∀ H0 F0,MOh K (C0 io H0 F0) i te fe):MO K (C0 io H0 F0) (NQ i te) (lw i fe):=by
 intro F H σ ρ Q r R e P;unfold lw at e;split at e
 case h_2=>cases e
 rename_i p hp;split at e
 case isFalse=>cases e
 rename_i hd;obtain⟨v,ev,rv⟩:=R.sh i p hp;obtain⟨a,u,rfl,rd,hu⟩:∃ a u,v=.ref a/\Rd F a u/\jn u:=by
  cases rv with
  |dk h=>exact⟨_,_,rfl,h,trivial⟩
  |dt h=>exact⟨_,_,rfl,h,trivial⟩
  |_=>cases hd
 refine⟨a,u,ev,hu,?_⟩;rcases rd with fa|⟨raw,fa⟩
 case inr=>exact .inl ⟨⟨raw,R.rb.sub _ _ fa⟩,h H0 F0 F H σ ρ Q r R ⟨a,raw,u,ev,fa,hu⟩ e P⟩
 refine .inr ⟨R.rb.sub _ _ fa,λraw=>?_⟩;have ha:=R.rb.sub _ _ fa;obtain⟨R2,_⟩:=IK (raw:=raw) R fa hu;refine h (cH H0 a raw u) (cH F0 a raw u) _ _ σ ρ _ r R2 ⟨a,raw,u,ev,au,hu⟩ e ?_;cases r with
 |ex z=>exact λ_ _ _ _ _ _ x=>x.elim
 |ok q=>
  intro b F3 H3 u3 n1 n2 ow;have f3:F3 a=some (.frz raw u):=u3.ff _ _ au;have h3:=u3.fh _ _ f3;have hb:b≠a:=λz=>by subst z;rw[f3] at n2;cases n2
  refine⟨h3,P b (upd F3 a u) (upd H3 a u) ⟨λc o' q=>?_,λc o' q=>?_,λc o' q=>?_,λc o' q=>?_⟩ (by rw[aq hb] at n1;exact n1) (by rw[aq hb];exact n2) (ow.sw ⟨λc hc=>aq hc,.inr ⟨raw,f3⟩,.inl au,hu⟩ (aq hb))⟩
  ·by_cases hc:c=a
   ·subst hc;rw[au,<-q,fa]
   ·rw[aq hc];exact u3.ff c o' (by rw[aq hc];exact q)
  ·by_cases hc:c=a
   ·subst hc;rw[au,<-q,ha]
   ·rw[aq hc];exact u3.hh c o' (by rw[aq hc];exact q)
  ·by_cases hc:c=a
   ·subst hc;rw[au] at q;cases q;exact .inl fa
   ·rw[aq hc] at q;rcases u3.fr c o' q with z|z|z
    ·rw[aq hc] at z;exact .inl z
    ·rw[aq hc] at z;exact .inr (.inl z)
    ·exact .inr (.inr z)
  ·by_cases hc:c=a
   ·subst hc;rw[au] at q ⊢;exact q
   ·rw[aq hc] at q ⊢;exact u3.fh c o' q
end
structure TQ(a c:Addr)(F H F' H':Hp):Prop where
 ff:aP F F'
 hb:∀ b o,H b=some o->b≠a->b≠c->H' b=some o
 fr:∀ b o,F' b=some o->F b=some o\/Frz H b o
 fh:aP F' H'
def Hl(K:PySem.W.Frag)(F:Hp)(a c:Addr)(p q:PV)(xs:List V)(l:List PV):Prop:=
 xs.length=l.length/\xs[0]?=some (.ref a)/\l[0]?=some p/\xs[1]?=some (.ref c)/\l[1]?=some q/\∀ (k:Nat) x r,2<=k->xs[k]?=some x->l[k]?=some r->Rep K F x r
def Dv(K:PySem.W.Frag)(m:List PV->Option (Res PV)):Sp:=λvs H Q _=>∃ ps F a c p q p' q',aP F H/\Hl K F a c p q vs ps/\a≠c/\Own K F H a p/\F a=none/\Own K F H c q/\F c=none/\m ps=some (.ok (.tup [p',q']))/\∀ F' H',TQ a c F H F' H'->Own K F' H' a p'->F' a=none->Own K F' H' c q'->F' c=none->Q .non H'
def dZ(ps:List PV)(n:Nat):Rho:=(ps.mapIdx λk p=>some (if k<2 then Sl.ow p else Sl.sh p))++List.replicate n none
def vY:Option Out->Option (Res PV)
 |some (.nx ρ)=>match ownAt 0 ρ,ownAt 1 ρ with
  |some p,some q=>some (.ok (.tup [p,q]))
  |_,_=>none
 |_=>none
section
variable{K:PySem.W.Frag}{C:Cg}{N:List Str}{vs:List V}{H F:Hp}{Q:VK}{E:XK}{t:TS}{b:Sn}{m:List PV->Option (Res PV)}{ps:List PV}{a c:Addr}{p q:PV}{n:Nat}
theorem lz{i:Nat}{s:Sl}(e:(dZ ps n)[i]?=some (some s)):∃ q,ps[i]?=some q/\s=if i<2 then Sl.ow q else Sl.sh q:=by
 unfold dZ at e;by_cases hi:i<ps.length
 ·rw[Zaj (by simpa using hi),List.getElem?_mapIdx] at e
  cases h:ps[i]? with
  |none=>rw[h] at e;cases e
  |some q=>rw[h] at e;exact⟨q,rfl,(Zab (Zab e)).symm⟩
 ·rw[Zau (by simpa using hi),Zbs] at e
  split at e<;>cases e
theorem mZ{i:Nat}{x:PV}(r:Hl K F a c p q vs ps)(e:(dZ ps n)[i]?=some (some (.ow x))):(i=0/\x=p)\/(i=1/\x=q):=by
 obtain⟨q',e1,e2⟩:=lz e;by_cases hij:i<2
 ·rw[Zag hij] at e2;cases e2;rcases(show i=0\/i=1 by omega) with rfl|rfl
  ·rw[r.2.2.1] at e1;cases e1;exact .inl ⟨rfl,rfl⟩
  ·rw[r.2.2.2.2.1] at e1;cases e1;exact .inr ⟨rfl,rfl⟩
 ·rw[Zae hij] at e2;cases e2
theorem Dw(s:aP F H)(r:Hl K F a c p q vs ps)(ac:a≠c)(w:Own K F H a p)(hn:F a=none)(w2:Own K F H c q)(hn2:F c=none)(hN:N.length=vs.length+n):RE K ⟨λb=>b=a\/b=c,False,H,F,E⟩ F H (start N vs) (dZ ps n) where
 rb:=⟨s,λ_ _ h _=>h,λ_ _ h=>.inl h,λb hb=>by
  obtain⟨o,eo⟩:=w.ne;obtain⟨o2,eo2⟩:=w2.ne;have h1:H b≠none:=by
   rcases hb with rfl|rfl
   ·rw[eo];simp
   ·rw[eo2];simp
  exact⟨h1,h1⟩⟩
 len:=by unfold start dZ;rw[List.length_append,List.length_append,List.length_map,List.length_mapIdx,List.length_replicate,List.length_replicate,r.1,hN];have:=r.1;omega
 sh:=λi x e=>by
  obtain⟨q',e1,e2⟩:=lz e;by_cases hij:i<2
  ·rw[Zag hij] at e2;cases e2
  ·rw[Zae hij] at e2;cases e2;have hi:i<vs.length:=by rw[r.1];exact cz e1
   exact⟨vs[i],ik (by simp[hi]),r.2.2.2.2.2 i _ _ (by omega) (by simp[hi]) e1⟩
 ow:=λi x e=>by
  rcases mZ r e with⟨rfl,rfl⟩|⟨rfl,rfl⟩
  ·exact⟨a,ik r.2.1,w,hn,.inl (.inl rfl)⟩
  ·exact⟨c,ik r.2.2.2.1,w2,hn2,.inl (.inr rfl)⟩
 dis:=λi k x y d e e' f f'=>by
  rcases mZ r e with⟨rfl,_⟩|⟨rfl,_⟩<;>rcases mZ r e' with⟨rfl,_⟩|⟨rfl,_⟩
  ·rfl
  ·rw[ik r.2.1] at f;rw[ik r.2.2.2.1] at f';cases f;cases f';exact absurd rfl ac
  ·rw[ik r.2.2.2.1] at f;rw[ik r.2.1] at f';cases f;cases f';exact absurd rfl ac
  ·rfl
 dd:=⟨_,RD.no λi x e=>by
  obtain⟨q',e1,e2⟩:=lz e;by_cases hij:i<2
  ·rw[Zag hij] at e2;cases e2
  ·rw[Zae hij] at e2;cases e2⟩
noncomputable abbrev C2(a c:Addr)(H0 F0:Hp):Cg:=⟨⟨λb=>b=a\/b=c,False,H0,F0,E0⟩,XR0⟩
theorem KC{k:Nat}(hk:N.length=k+n)(hm:∀ ps r,m ps=some r->ps.length=k/\vY (b (dZ ps n))=some r)(h:Dv K m vs H Q E)(hS:∀ (a c:Addr) (H0 F0:Hp),MSk K (C2 a c H0 F0) 0 t b) :
  t { nx:=λ_ H'=>Q .non H',rt:=Q } (start N vs) H:=by
 obtain⟨ps,F,a,c,p,q,p',q',s,rp,ac,w,hn,w2,hn2,e,P⟩:=h;obtain⟨hl,e⟩:=hm ps _ e;have R:=Dw (E:=E0) (N:=N) (n:=n) s rp ac w hn w2 hn2 (by rw[rp.1,hl];exact hk)
 cases ho:b (dZ ps n) with
 |none=>rw[ho] at e;cases e
 |some o=>
  rw[ho] at e;refine hS a c H F F H _ _ _ o R ho ?_;cases o with
  |nx ρ=>
   intro F' H' σ s' R' kk;rw[ik rp.2.1] at kk;have e:(match ownAt 0 ρ,ownAt 1 ρ with|some p,some q=>some (Res.ok (PV.tup [p,q]))|_,_=>none)=some (.ok (.tup [p',q'])):=e
   split at e
   ·rename_i x y h0 h1;cases e;obtain⟨b0,e1,e2,e3,e4⟩:=R'.ow 0 _ (bw h0);obtain⟨b1,f1,f2,f3,f4⟩:=R'.ow 1 _ (bw h1);rw[kk] at e1;cases e1;have hc:b1=c:=by
     rcases f4 with(z|z)|z
     ·subst z;exact absurd (R'.dis 0 1 _ _ _ (bw h0) (bw h1) kk f1) (by decide)
     ·exact z
     ·exact z.1.elim
    subst hc;exact P F' H' ⟨s',λb o q h1 h2=>R'.rb.keep b o q λz=>z.elim h1 h2,R'.rb.new,R'.rb.sub⟩ e2 e3 f2 f3
   ·cases e
  |_=>cases e
theorem KD(h:Dv K m vs H Q E){k:Nat}(hm:∀ ps r,m ps=some r->ps.length=k):vs.length=k:=by
 obtain⟨ps,F,a,c,p,q,p',q',s,rp,ac,w,hn,w2,hn2,e,P⟩:=h;rw[rp.1];exact hm ps _ e
theorem RE.W8{F' H':Hp}{σ:St}{ρ:Rho}{p' q':PV}{i j:Nat}(R:RE K C.toCf F H σ ρ)(ij:i≠j)(e:ρ[i]?=some (some (.ow p)))(ea:σ[i]?=some (some (.ref a)))(f0:ρ[j]?=some (some (.ow q)))(fc:σ[j]?=some (some (.ref c)))
  (u:TQ a c F H F' H')(w:Own K F' H' a p')(hn:F' a=none)(w2:Own K F' H' c q')(hn2:F' c=none):RE K C.toCf F' H' σ ((ρ.set i (some (.ow p'))).set j (some (.ow q'))):=by
 obtain⟨a1,e1,e2,e3,e4⟩:=R.ow i p e;rw[ea] at e1;cases e1;obtain⟨c1,g1,g2,g3,g4⟩:=R.ow j q f0;rw[fc] at g1;cases g1;have own:∀ {b:Addr},b≠a->b≠c->∀ {x:PV},Own K F H b x->F b=none->Own K F' H' b x/\F' b=none:=λ{b} ha hc {x} ox fb=>by
  refine⟨ox.up u.ff λo q=>u.hb b o q ha hc,?_⟩;cases hF:F' b with
  |none=>rfl
  |some o=>
   obtain⟨ob,eob⟩:=ox.ne;rcases u.fr b o hF with z|z|⟨ys,z⟩
   ·rw[fb] at z;cases z
   ·rw[eob] at z;cases z
   ·subst z;have w:=u.fh _ _ hF;rw[u.hb b _ eob ha hc] at w;cases w;exact(ox.t6 eob).elim
 have key:∀ {k:Nat}{x:PV},((ρ.set i (some (Sl.ow p'))).set j (some (Sl.ow q')))[k]?=some (some (.ow x))->(k=j/\x=q')\/(k=i/\x=p')\/(k≠i/\k≠j/\ρ[k]?=some (some (.ow x))):=λ{k x} f=>by
  rcases get_set f with⟨h1,h2⟩|⟨h1,h2⟩
  ·cases h2;exact .inl ⟨h1.symm,rfl⟩
  ·rcases get_set h2 with⟨h3,h4⟩|⟨h3,h4⟩
   ·cases h4;exact .inr (.inl ⟨h3.symm,rfl⟩)
   ·exact .inr (.inr ⟨ZaX h3,ZaX h1,h4⟩)
 have key':∀ {k:Nat}{x:PV},((ρ.set i (some (Sl.ow p'))).set j (some (Sl.ow q')))[k]?=some (some (.ow x))->∃ y,ρ[k]?=some (some (.ow y)):=λ{k x} f=>by
  rcases key f with⟨rfl,_⟩|⟨rfl,_⟩|⟨_,_,h⟩
  ·exact⟨q,f0⟩
  ·exact⟨p,e⟩
  ·exact⟨x,h⟩
 refine⟨⟨u.fh,λb o h n=>?_,λb o h=>?_,λb hb=>⟨?_,(R.rb.ios b hb).2⟩⟩,by simp[R.len],λk x f=>?_,λk x f=>?_,λk l x y b f f' h h'=>?_,?_⟩
 ·have h1:b≠a:=λz=>by
   subst z;rcases e4 with z|z
   ·exact n z
   ·rw[z.2] at h;cases h
  have h2:b≠c:=λz=>by
   subst z;rcases g4 with z|z
   ·exact n z
   ·rw[z.2] at h;cases h
  exact u.hb b o (R.rb.keep b o h n) h1 h2
 ·rcases u.fr b o h with z|z
  ·exact R.rb.new b o z
  ·exact .inr (z.imp (λz=>R.rb.t7 z) id)
 ·by_cases hba:b=a
  ·subst hba;obtain⟨o,eo⟩:=w.ne;rw[eo];simp
  ·by_cases hbc:b=c
   ·subst hbc;obtain⟨o,eo⟩:=w2.ne;rw[eo];simp
   ·cases hb':H b with
    |none=>exact absurd hb' (R.rb.ios b hb).1
    |some o=>rw[u.hb b o hb' hba hbc];simp
 ·rcases get_set f with⟨h1,h2⟩|⟨h1,h2⟩
  ·cases h2
  ·rcases get_set h2 with⟨h3,h4⟩|⟨h3,h4⟩
   ·cases h4
   ·obtain⟨v,k1,k2⟩:=R.sh k x h4;exact⟨v,k1,k2.up u.ff⟩
 ·rcases key f with⟨rfl,rfl⟩|⟨rfl,rfl⟩|⟨k1,k2,h⟩
  ·exact⟨c,fc,w2,hn2,g4⟩
  ·exact⟨a,ea,w,hn,e4⟩
  ·obtain⟨b,h1,h2,h3,h4⟩:=R.ow k x h;have ha:b≠a:=λz=>by subst z;exact k1 (R.dis i k p x b e h ea h1).symm
   have hc:b≠c:=λz=>by subst z;exact k2 (R.dis j k q x b f0 h fc h1).symm
   exact⟨b,h1,(own ha hc h2 h3).1,(own ha hc h2 h3).2,h4⟩
 ·obtain⟨y1,k1⟩:=key' f;obtain⟨y2,k2⟩:=key' f';exact R.dis k l y1 y2 b k1 k2 h h'
 ·obtain⟨P,d⟩:=R.dd;have na:∀ k b,P k b->b≠a:=λk b z e'=>by subst e';exact d.ow k i p b z e ea
  have nc:∀ k b,P k b->b≠c:=λk b z e'=>by subst e';exact d.ow k j q b z f0 fc
  refine⟨P,λk b z=>?_,d.dis,λk l x b z f h=>?_,λk x f=>?_⟩
  ·obtain⟨a1,⟨o',a2,a3⟩,a4⟩:=d.own k b z;have hb':=u.hb b _ a2 (na k b z) (nc k b z);refine⟨?_,⟨o',hb',a3⟩,a4⟩;cases hF:F' b with
   |none=>rfl
   |some o=>
    rcases u.fr b o hF with w|w|⟨ys,w⟩
    ·rw[a1] at w;cases w
    ·rw[a2] at w;cases w
    ·subst w;have w:=u.fh _ _ hF;rw[hb'] at w;cases w;exact absurd rfl (a3 ys)
  ·obtain⟨y,k1⟩:=key' f;exact d.ow k l y b z k1 h
  ·rcases get_set f with⟨h1,h2⟩|⟨h1,h2⟩
   ·cases h2
   ·rcases get_set h2 with⟨h3,h4⟩|⟨h3,h4⟩
    ·cases h4
    ·obtain⟨w',k1,k2⟩:=d.dp k x h4;exact⟨w',k1,k2.up u.ff (λb o z q=>u.hb b o q (na k b z) (nc k b z)) λb ys q=>u.hb b _ q (λz=>by subst z;exact e2.t6 q) λz=>by subst z;exact g2.t6 q⟩
def uL(i j:Nat)(g:Fn (List PV)):Fn (List PV):=λρ=>match ownAt i ρ,ownAt j ρ with
 |some p,some q=>bnd (g ρ) λl=>some (.ok (p::q::l))
 |_,_=>none
def KH(i j:Nat)(m:List PV->Option (Res PV))(g:Fn (List PV)):Sn:=λρ=>fP (uL i j g ρ) λl=>match m l with
 |some (.ok (.tup [p',q']))=>some (.nx ((ρ.set i (some (.ow p'))).set j (some (.ow q'))))
 |_=>none
theorem Vm{i j:Nat}{ts:TA}{g:Fn (List PV)}{m:List PV->Option (Res PV)}(ij:i≠j)(h:MA K C ts g):MS K C (yu (lX (Dv K m) [] C.E (jd (iZ i) (jd (iZ j) ts)))) (KH i j m g):=by
 intro F H σ ρ D o R e P;unfold KH uL at e;cases hp:ownAt i ρ with
 |none=>rw[hp] at e;cases e
 |some p=>
 cases hq:ownAt j ρ with
 |none=>rw[hp,hq] at e;cases e
 |some q=>
 rw[hp,hq] at e;have ep:=bw hp;have eq:=bw hq;obtain⟨a,ea,_⟩:=R.ow i p ep;obtain⟨c,ec,_⟩:=R.ow j q eq;refine⟨_,ea,_,ec,?_⟩;rcases b7 e with⟨z,e1,rfl⟩|⟨l,e1,e2⟩
 ·rcases bK e1 with⟨z',e3,ez⟩|⟨l,e3,e4⟩
  ·cases ez;exact h F H σ ρ _ _ R e3 P
  ·cases e4
 ·rcases bK e1 with⟨z',e3,ez⟩|⟨l',e3,e4⟩
  ·cases ez
  cases e4;refine h F H σ ρ _ _ R e3 λxs F1 H1 u rr=>?_;have R1:=R.up u;obtain⟨a',ea',w1,n1,_⟩:=R1.ow i p ep;obtain⟨c',ec',w2,n2,_⟩:=R1.ow j q eq;rw[ea] at ea';cases ea';rw[ec] at ec';cases ec';have ac:a≠c:=λz=>by subst z;exact ij (R.dis i j p q a ep eq ea ec)
  split at e2
  ·rename_i p' q' hm;cases e2;refine⟨p::q::l',F1,a,c,p,q,p',q',u.fh,⟨by simp[rr.1],rfl,rfl,rfl,rfl,λk x r hk ex er=>?_⟩,ac,w1,n1,w2,n2,hm,λF2 H2 u2 o1 m1 o2 m2=>?_⟩
   ·obtain⟨k,rfl⟩:∃ k',k=k'+2:=⟨k-2,by omega⟩
    exact rr.2 k x r (by simpa using ex) (by simpa using er)
   ·exact P F2 H2 σ (u.ff.trans u2.ff) (R1.W8 ij ep ea eq ec u2 o1 m1 o2 m2)
  ·cases e2
theorem Dy{k i:Nat}{te tb:TE}{fe fk:Fn PV}(he:MJ K C (aF K) te fe)(hk:MJ K C (aF K) tb fk):MSk K C k (Mw (iZ i) tb te) (ug i fe fk):=by
 intro F H σ ρ D o R e P;refine he.Nv R e P λp v F1 H1 hk1 u a=>?_;split at hk1
 case h_2=>cases hk1
 rename_i d hd;obtain⟨b,g1,_⟩:=R.ow i _ (bw hd);refine⟨_,g1,hk.Nv (R.up u) hk1 (P.up u.ff) λkk w F2 H2 hk2 u2 rk=>?_⟩;split at hk2
 case h_2=>cases hk2
 rename_i d' hd';cases hk2;have R2:=R.up (u.trans u2);obtain⟨a',k1,k2,_⟩:=R2.ow i _ (bw hd);rw[g1] at k1;cases k1;obtain⟨ob,g,w'⟩:=Ax u2.fh k2 rk (Rep.up a u2.ff) hd';exact⟨b,_,rfl,g,P F2 _ σ (u.trans u2).ff (R2.write (bw hd) g1 w') rfl⟩
theorem KJ{k:Nat}{c:TT}{fc:Fn Bool}{f:Sn}(n:Nat)(hc:MT K C c fc)(hb:MSk K C k t f):MSk K C k (Gk c t) (j5 fc f n):=by
 intro F H σ ρ D o R e P;refine⟨λm σ' H'=>∃ F' ρ',aP F F'/\RE K C.toCf F' H' σ' ρ'/\σ'[k]?=σ[k]?/\j5 fc f m ρ'=some o,⟨n,F,ρ,aP.refl _,R,rfl,e⟩,?_⟩;rintro m σ' H' ⟨F',ρ',s,R',kk,e'⟩;cases m with
 |zero=>cases e'
 |succ m=>
  refine hc.Nv R' e' (P.up s) λb F1 H1 hk u=>?_;have sF:aP F F1:=s.trans u.ff;have R1:=R'.up u;cases b with
  |false=>
   rw[Zae (by decide)] at hk ⊢
   cases hk;exact P F1 H1 σ' sF R1 kk
  |true=>
   rw[Zag rfl] at hk ⊢;refine⟨λσ2 H2=>∃ F2 ρ2,aP F F2/\RE K C.toCf F2 H2 σ2 ρ2/\σ2[k]?=σ[k]?/\j5 fc f m ρ2=some o,λσ2 H2 ⟨F2,ρ2,s2,R2,k2,e2⟩=>⟨m,Nat.lt_succ_self _,F2,ρ2,s2,R2,k2,e2⟩,?_⟩;split at hk
   ·rename_i ρ2 h2;exact hb F1 H1 σ' ρ' _ _ R1 h2 λF3 H3 σ3 s3 R3 k3=>⟨F3,ρ2,sF.trans s3,R3,k3.trans kk,hk⟩
   ·rename_i ρ2 h2;exact hb F1 H1 σ' ρ' _ _ R1 h2 λF3 H3 σ3 s3 R3 k3=>⟨F3,ρ2,sF.trans s3,R3,k3.trans kk,hk⟩
   ·rename_i ρ2 h2;cases hk;exact hb F1 H1 σ' ρ' _ _ R1 h2 λF3 H3 σ3 s3 R3 k3=>P F3 H3 σ3 (sF.trans s3) R3 (k3.trans kk)
   ·rename_i n1 n2 n3;cases o with
    |nx ρ2=>exact absurd hk (n1 ρ2)
    |ct ρ2=>exact absurd hk (n2 ρ2)
    |bk ρ2=>exact absurd hk (n3 ρ2)
    |rt p=>exact hb F1 H1 σ' ρ' _ _ R1 hk (POk.up (D:=D) (c:=σ[k]?) P sF)
    |ro p=>exact hb F1 H1 σ' ρ' _ _ R1 hk (POk.up (D:=D) (c:=σ[k]?) P sF)
    |rd p=>exact hb F1 H1 σ' ρ' _ _ R1 hk (POk.up (D:=D) (c:=σ[k]?) P sF)
    |ex z=>exact hb F1 H1 σ' ρ' _ _ R1 hk (PX.up P sF)
end
end L2.MP
namespace L2
open PySem PySem.Spec PyProof PyProof.Rows
namespace MP
end MP
namespace MP
end MP
theorem Az{h:Heap}{vs:List Value}{out:Array Value}{b:Addr}{o:Obj}(hb:h.get? b=some o):(sortedHeap (h.push (seqObj "list" vs.toArray 0)) h.objs.size vs out).get? b=some o:=by
 have hlt:b<h.objs.size:=Zam hb;rw[sortedHeap_old (ZaD hlt) (by rw[size_push'];exact Nat.lt_succ_of_lt hlt)]
 exact Zad _ hb
namespace MP
end MP
end L2
namespace L2.MP
open PySem PySem.Spec PyProof.Rows
section
variable{K:PySem.W.Frag}{C:Cg}{te:TE}{F F' G H H1 H':Hp}{σ:St}{ρ:Rho}{D:Ends}{t:TS}{f:Sn}{o:Out}{S:Addr->Prop}{v:V}{p:PV}
theorem Rep.pL:∀ {n:Nat}{v:V}{p:PV},Rep K F v p->MP.pL n p=true->(∀ b ys,F b=some (.tup ys)->G b=some (.tup ys))->Rep K G v p
 |0,v,p,h,hs,g=>h.free hs
 |n+1,v,p,h,hs,g=>by
  cases h with
  |non=>exact .non
  |bl=>exact .bl
  |int=>exact .int
  |str=>exact .str
  |ty=>exact .ty
  |tup h hl hr=>exact .tup (g _ _ h) hl λj x p a b=>(hr j x p a b).pL (n:=n) (Za6.mp hs p (Zal b)) g
  |lst=>cases hs
  |dk=>cases hs
  |dt=>cases hs
  |exc=>cases hs
  |exc0=>cases hs
theorem Dp.toG(d:Dp K F H S v p)(g:∀ b ys,F b=some (.tup ys)->G b=some (.tup ys)):Dp K G H S v p:=by
 induction d with
 |fr h st=>exact .fr (h.pL st g) st
 |lst h hp hs dj hl _ ih=>exact .lst h hp hs dj hl ih
 |tup h hs dj hl _ ih=>exact .tup h hs dj hl ih
 |dk h hp hs dj hl _ ih=>exact .dk h hp hs dj hl ih
 |dt h hp hs dj hl _ ih=>exact .dt h hp hs dj hl ih
def Ba(m:List PV->Option (Res PV))(f:Fn (List PV)):Fn PV:=λρ=>bnd (f ρ) λl=>match m l with
 |some (.ok p)=>some (.ok p)
 |_=>none
theorem NT{t:TA}{f:Fn (List PV)}{m:List PV->Option (Res PV)}(h:MAL K C t f):MD K C (lX (spD K C.XR m) [] C.E t) (Ba m f):=by
 intro F H σ ρ Q r R e P;refine h.run R e P λl xs F1 H1 hk u a=>?_;split at hk
 ·rename_i p hp;cases hk;refine⟨l,H1,.ok p,aP.refl _,by rw[ZaJ];exact a,hp,λv F' H' S u' d n=>?_⟩
  have s1:aP F1 H':=u.fh.trans u'.hh;refine P v (uy F1 H' λ_=>False) H' S ⟨u.ff.trans (iW s1),u.hh.trans u'.hh,λb o q=>?_,qZ s1⟩ (d.toG λb ys q=>?_) λb q=>?_
  ·by_cases hb:False\/∃ ys,H' b=some (.tup ys)
   ·rw[fU hb] at q;obtain⟨ys,z⟩:=hb.resolve_left id;rw[z] at q;cases q;exact .inr (.inr ⟨ys,rfl⟩)
   ·rw[eY hb] at q;exact u.fr b o q
  ·have:=u'.fh _ _ q;rw[fU (.inr ⟨ys,this⟩)];exact this
  ·obtain⟨n1,n2,o,n3,n4⟩:=n b q;refine⟨u.hh.free n1,?_,o,n3,n4⟩;rw[eY]
   ·exact u.fh.free n1
   ·rintro(z|⟨ys,z⟩)
    ·exact z
    ·rw[n3] at z;cases z;exact n4 ys rfl
 ·cases hk
def uh(i:Nat)(f:Sn):Sn:=λρ=>match Ay i ρ with
 |some p=>f (ρ.set i (some (.sh p)))
 |none=>none
theorem Bb(i:Nat)(h:MS K C t f):MS K C t (uh i f):=by
 intro F H σ ρ D o R e P;unfold uh at e;split at e
 ·rename_i p hp;obtain⟨S,v,_,_,_,R'⟩:=R.W6 (gU hp);exact h _ H σ _ D o R' e (P.up (iW R.rb.sub))
 ·cases e
def Ye(C:Cf)(js:List Nat)(ρ:Rho)(σ:St)(H F' H':Hp)(S:Addr->Prop):Prop:=∀ b,S b->(H b=none\/∃ i p,i∈js/\ρ[i]?=some (some (.ow p))/\σ[i]?=some (some (.ref b)))/\F' b=none/\(∃ o,H' b=some o/\∀ ys,o≠.tup ys)/\C.H0 b=none
def MDo(K:PySem.W.Frag)(C:Cg)(js:List Nat)(ta:TA)(f:Fn (List PV)):Prop:=
 ∀ F H σ ρ Q r,RE K C.toCf F H σ ρ->f ρ=some r->Pr C F (λl=>∀ xs F' H' S,Up F H F' H'->Dps K F' H' S xs l->Ye C.toCf js ρ σ H F' H' (λb=>∃ j,S j b)->Q xs H') r->ta σ H Q
theorem IV:MDo K C [] vh bC:=λF H σ ρ Q r R e P=>by
 cases e;exact P [] F H (λ_ _=>False) (Up.refl R.rb.sub) ⟨rfl,λ_ _ _ q=>q.elim,λj x p e=>by simp at e⟩ λb ⟨_,q⟩=>q.elim
theorem Dz{js:List Nat}{fe:Fn PV}{fs:Fn (List PV)}{ts:TA}(h:MD K C te fe)(hs:MDo K C js ts fs):MDo K C js (jd te ts) (aA fe fs):=by
 intro F H σ ρ Q r R e P;rcases bK e with⟨z,e1,rfl⟩|⟨p,e1,hk⟩
 ·exact h F H σ ρ _ _ R e1 P
 refine h F H σ ρ _ _ R e1 λv F1 H1 S u d n=>?_;rcases bK hk with⟨z,e2,rfl⟩|⟨l,e2,hk2⟩
 ·exact hs F1 H1 σ ρ _ _ (R.up u) e2 (PX.up P u.ff)
 refine hs F1 H1 σ ρ _ _ (R.up u) e2 λxs F2 H2 S2 u2 d2 n2=>?_;cases hk2;have ap:∀ b j,S b->S2 j b->False:=λb j a1 a2=>by
  obtain⟨c0,_,o,c1,_⟩:=n b a1;rcases(n2 b ⟨j,a2⟩).1 with c2|⟨i,q,_,c2,c3⟩
  ·rw[c1] at c2;cases c2
  ·exact R.apart c0 i q c2 c3
 refine P (v::xs) F2 H2 (λj b=>match j with|0=>S b|j+1=>S2 j b) (u.trans u2) ⟨by simp[d2.1],λi j b a1 a2=>?_,λj x q a1 a2=>?_⟩ ?_
 ·match i,j,a1,a2 with
  |0,0,_,_=>rfl
  |0,j+1,a1,a2=>exact(ap b j a1 a2).elim
  |i+1,0,a1,a2=>exact(ap b i a2 a1).elim
  |i+1,j+1,a1,a2=>exact Zbd (·+1) (d2.2.1 i j b a1 a2)
 ·match j,a1,a2 with
  |0,a1,a2=>cases a1;cases a2;exact d.stay u2
  |j+1,a1,a2=>exact d2.2.2 j x q (by simpa using a1) (by simpa using a2)
 ·rintro b ⟨j,q⟩
  match j,q with
  |0,q=>
   obtain⟨c0,c1,o,c2,c3⟩:=(n.up u2) b q;exact⟨.inl c0,c1,⟨o,c2,c3⟩,R.rb.t7 c0⟩
  |j+1,q=>
   obtain⟨c1,c2⟩:=n2 b ⟨j,q⟩;exact⟨c1.imp (λz=>u.hh.free z) id,c2⟩
def PV.lC:PV->Bool
 |.lst l=>l.all PV.still
 |.dk l=>l.all λkv=>kv.2.still
 |.dt l=>l.all λkv=>kv.2.still
 |_=>false
def oR(i:Nat):Fn PV:=λρ=>match ownAt i ρ with
 |some p=>if p.lC=true then some (.ok p) else none
 |none=>none
theorem Own.dp{a:Addr}(w:Own K F H a p)(h:p.lC=true):Dp K F H (λb=>b=a) (.ref a) p:=by
 cases p with
 |lst l=>
  obtain⟨xs,e2,e3⟩:=w;exact .lst (S:=λ_ _=>False) e2 rfl (λj b q=>q.elim) (λi j b q=>q.elim) e3.1 λj x p e4 e5=>.fr (e3.2 j x p e4 e5) (Za6.mp h p (Zal e5))
 |dk l=>
  obtain⟨xs,e2,e3,e4⟩:=w;exact .dk (S:=λ_ _=>False) e2 rfl (λj b q=>q.elim) (λi j b q=>q.elim) e3 λj x p e5 e6=>.fr (e4 j x p e5 e6) (Za6.mp h p (Zal e6))
 |dt l=>
  obtain⟨xs,e2,e3,e4⟩:=w;exact .dt (S:=λ_ _=>False) e2 rfl (λj b q=>q.elim) (λi j b q=>q.elim) e3 λj x p e5 e6=>.fr (e4 j x p e5 e6) (Za6.mp h p (Zal e6))
 |_=>cases h
theorem uM{js:List Nat}(i:Nat){fs:Fn (List PV)}{ts:TA}(hio:∀ a,¬C.io a)(hi:i ∉ js)(hs:MDo K C js ts fs):MDo K C (i::js) (jd (iZ i) ts) (aA (oR i) fs):=by
 intro F H σ ρ Q r R e P;rcases bK e with⟨z,e1,rfl⟩|⟨p,e1,hk⟩
 ·unfold oR at e1;split at e1
  ·split at e1<;>cases e1
  ·cases e1
 have hp:ρ[i]?=some (some (.ow p))/\p.lC=true:=by
  unfold oR at e1;split at e1
  ·rename_i q hq;split at e1
   ·rename_i sh;cases e1;exact⟨bw hq,sh⟩
   ·cases e1
  ·cases e1
 obtain⟨a,ea,w,na,e4⟩:=R.ow i p hp.1;refine⟨_,ea,?_⟩;rcases bK hk with⟨z,e2,rfl⟩|⟨l,e2,hk2⟩
 ·exact hs F H σ ρ _ _ R e2 P
 refine hs F H σ ρ _ _ R e2 λxs F2 H2 S2 u2 d2 n2=>?_;cases hk2;obtain⟨a',ea',w2,na2,_⟩:=(R.up u2).ow i p hp.1;rw[ea] at ea';cases ea';obtain⟨ob,eob⟩:=w.ne;have ap:∀ j,S2 j a->False:=λj q=>by
  rcases(n2 a ⟨j,q⟩).1 with c|⟨k,q',hk',c2,c3⟩
  ·rw[eob] at c;cases c
  ·have:=R.dis i k p q' a hp.1 c2 ea c3;subst this;exact hi hk'
 refine P (.ref a::xs) F2 H2 (λj b=>match j with|0=>b=a|j+1=>S2 j b) u2 ⟨by simp[d2.1],λi j b a1 a2=>?_,λj x q a1 a2=>?_⟩ ?_
 ·match i,j,a1,a2 with
  |0,0,_,_=>rfl
  |0,j+1,a1,a2=>cases a1;exact(ap j a2).elim
  |i+1,0,a1,a2=>cases a2;exact(ap i a1).elim
  |i+1,j+1,a1,a2=>exact Zbd (·+1) (d2.2.1 i j b a1 a2)
 ·match j,a1,a2 with
  |0,a1,a2=>cases a1;cases a2;exact w2.dp hp.2
  |j+1,a1,a2=>exact d2.2.2 j x q (by simpa using a1) (by simpa using a2)
 ·rintro b ⟨j,q⟩
  match j,q with
  |0,q=>
   cases q;obtain⟨ob2,eob2⟩:=w2.ne;exact⟨.inr ⟨i,p,List.mem_cons_self,hp.1,ea⟩,na2,⟨ob2,eob2,λys z=>by subst z;exact w2.t6 eob2⟩,(e4.resolve_left (hio a)).2⟩
  |j+1,q=>
   obtain⟨c1,c2⟩:=n2 b ⟨j,q⟩;exact⟨c1.imp id λ⟨k,q',hk',z⟩=>⟨k,q',List.mem_cons_of_mem _ hk',z⟩,c2⟩
def DG(fs:Fn (List PV)):Sn:=λρ=>fP (fs ρ) λl=>if l.length<=sizeLine then some (.rd (.tup l)) else none
theorem IW{js:List Nat}{fs:Fn (List PV)}{ts:TA}(h:MDo K C js ts fs):MS K C (JX (Uy ts)) (DG fs):=by
 intro F H σ ρ D o R e P;rcases b7 e with⟨z,e1,rfl⟩|⟨l,e1,hk⟩
 ·exact h F H σ ρ _ _ R e1 P
 split at hk
 ·rename_i hl;cases hk;refine h F H σ ρ _ _ R e1 λxs F1 H1 S u d n=>⟨by rw[d.1];exact hl,λa ha=>?_⟩
  have u2:Up F1 H1 F1 (upd H1 a (.tup xs)):=⟨aP.refl _,di ha,λ_ _ q=>.inl q,λb o q=>by rw[aq (λz=>by subst z;have:=u.fh _ _ q;rw[ha] at this;cases this)];exact u.fh b o q⟩
  refine P (.ref a) F1 _ (λb=>∃ j,S j b) u.ff (R.rb.up (u.trans u2)) (.tup au (λj b q=>⟨j,q⟩) d.2.1 d.1 λj x p a1 a2=>(d.2.2 j x p a1 a2).stay u2) λb q=>?_;obtain⟨_,c1,⟨o,c2,c3⟩,c4⟩:=n b q;exact⟨c1,⟨o,u2.hh _ _ c2,c3⟩,c4⟩
 ·cases hk
end
open PySem PySem.Spec PyProof PyProof.Rows
end L2.MP
namespace L2
open PySem PySem.Spec PyProof PyProof.Rows
def oN(h:Heap)(d:Addr)(es:Array DictEntry)(ep:Nat):Prop:=∃ o,h.get? d=some o/\o.ExactDict/\o.data=.dict es ep
section
variable{prog:Program}{w:World}{A:Around}{E:Value->Shared->Prop}{s:Shared}{h h':Heap}{d it:Addr}{es:Array DictEntry}{ep i:Nat}
theorem oN.step(r:oN h d es ep)(k:∀ o,h.get? d=some o->h'.get? d=some o):oN h' d es ep:=by
 obtain⟨o,e,q⟩:=r;exact⟨o,k o e,q⟩
theorem oN.small(r:oN h d es ep):d<h.objs.size:=by obtain⟨o,e,_⟩:=r;exact Zam e
theorem oN.ty(r:oN s.heap d es ep):s.TypeIs (.ref d) "dict":=by
 obtain⟨o,e,c,_⟩:=r;exact⟨o,e,c.1⟩
theorem DK{Q:Value->Shared->Prop}(nd:(d==sysModules)=false)(r:oN s.heap d es ep)
  (q:Q (.ref s.heap.objs.size) { s with heap:=s.heap.push { cls:=.type "dict_keyiterator",data:=.fields #[.ref d,.int 0 0,.int es.size 0,.int ep 0] } }):wpAny (model prog w) A (pyIter (.ref d)) Q E s:=by
 obtain⟨o,e1,e2,e3⟩:=id r;refine wpAny_pyIter_slot r.ty PySem.F.slot_dict_iter (wpAny_call_entry PySem.F.slot_dict_iter r.ty PySem.F.entry_dict_iter ?_ (PySem.F.args_dict_iter_1 _));unfold Builtin.«dict.__iter__»;refine Zaa (m:=Builtin.Dict.dictSlotNone _ _) ?_;unfold Builtin.Dict.dictSlotNone;refine Zaa (wpAny_notOrdered_dict r.ty (Zaf ?_));show wpAny _ _ (Builtin.Dict.showsAll d>>=_) _ _ _
 unfold Builtin.Dict.showsAll;rw[nd,Zae Zbf];refine Zaa (Zaf (Zaa (wpAny_dictEntries e1 e3 (Zaa (wpAny_dictEpoch e1 e3 ?_)))));refine Zaa (wpAny_newObj_type (Zaf ⟨_,rfl,"dict_keyiterator",_,⟨_,Zar _ rfl,rfl⟩,Za7.lookup,?_⟩));simpa[rawInt] using q
theorem NZ{Q:Option Value->Shared->Prop}{x:DictEntry}(hi:s.heap.IsKeyIter it d i es.size ep)(r:oN s.heap d es ep)(hx:es[i]?=some x)
  (q:∀ h',h'.IsKeyIter it d (i+1) es.size ep->Heap.SameBut it s.heap h'->Q (some x.key) { s with heap:=h' }):wpAny (model prog w) A (pyNext (.ref it)) Q E s:=by
 obtain⟨io,i1,i2,i3⟩:=id hi;obtain⟨o,e1,e2,e3⟩:=id r;have lt:i<es.size:=by
  rcases Nat.lt_or_ge i es.size with z|z
  ·exact z
  ·rw[ZbU z] at hx;cases hx
 have ex:es[i]=x:=by rw[ZaE lt] at hx;exact Zab hx
 unfold pyNext;refine Zaa (wpAny_attempt (wpAny_callSpecial?_slot (name:=Str.ofString "__next__") hi.typeIs Za7 (wpAny_call_entry Za7 hi.typeIs PySem.F.entry_dict_keyiterator_next ?_ (PySem.F.args_dict_keyiterator_next_1 _))));refine Zaa (Zaf (Zaa (Zaa ?_)))
 first
  |refine Zaa (wpAny_typeNameOfWhole_keyiter hi.typeIs (Zaf ?_))
  |refine Zaa (wpAny_typeNameOf_keyiter hi.typeIs (Zaf ?_))
 refine Zaa (wpAny_fieldsOf i1 i3 ?_);simp only[show Builtin.Dict_items.ownsTuple "dict_keyiterator"=false by decide,Zbg,Zbh]
 show wpAny _ _ (if(Value.ref d==.none)=true then _ else _) _ _ _
 rw[Zae (show ¬(Value.ref d==.none)=true from Zbf)];refine Zaa (Zaf (Zaa (wpAny_dictEntries e1 e3 ?_)));rw[Zae (by simp)]
 refine Zaa (Zaf (Zaa (wpAny_dictEpoch e1 e3 ?_)));rw[Zae (by simp)]
 refine Zaf ?_;simp only[show ¬((i:Int)<0) by lia,Zbh,ZaQ,ZaE lt]
 refine Zaa ?_
 first
  |refine Zaa (wpAny_typeNameOfWhole_keyiter hi.typeIs (Zaf ?_))
  |refine Zaa (wpAny_typeNameOf_keyiter hi.typeIs (Zaf ?_))
 refine Zaa (wpAny_isOneOf_keyiter hi.typeIs ?_);show wpAny _ _ (setField (.ref it) 1 (rawInt ((i:Int)+1))>>=_) _ _ _
 refine Zaa (wpAny_setField i1 i3 (by simp) ?_)
 have next:(s.heap.update it (Obj.mapFields (·.setIfInBounds 1 (rawInt ((i:Int)+1))))).IsKeyIter it d (i+1) es.size ep:=
  ⟨_,ZbJ _ i1 (Obj.isFreed_of_fields (Obj.data_mapFields i3 _)),(Obj.cls_mapFields ..).trans i2,by rw[Obj.data_mapFields i3];simp[rawInt]⟩
 refine Zaa (wpAny_holding (Zaa (wpAny_isOneOf_keyiter (s:={ s with heap:=s.heap.update it (Obj.mapFields (·.setIfInBounds 1 (rawInt ((i:Int)+1)))) }) next.typeIs ?_)));show wpAny _ _ (pure es[i].key) _ _ _
 rw[ex];exact Zaf (Zaf ⟨_,rfl,Zaf (q _ next (ZbF ..))⟩)
theorem Rq{Q:Option Value->Shared->Prop}(hh:A.handled=none)(hi:s.heap.IsKeyIter it d es.size es.size ep)(r:oN s.heap d es ep)
  (q:∀ h',Heap.ExtBut it s.heap h'->Q none { s with heap:=h' }):wpAny (model prog w) A (pyNext (.ref it)) Q E s:=by
 obtain⟨io,i1,i2,i3⟩:=id hi;obtain⟨o,e1,e2,e3⟩:=id r;unfold pyNext;refine Zaa (wpAny_attempt (wpAny_callSpecial?_slot (name:=Str.ofString "__next__") hi.typeIs Za7 (wpAny_call_entry Za7 hi.typeIs PySem.F.entry_dict_keyiterator_next ?_ (PySem.F.args_dict_keyiterator_next_1 _))));refine Zaa (Zaf (Zaa (Zaa ?_)))
 first
  |refine Zaa (wpAny_typeNameOfWhole_keyiter hi.typeIs (Zaf ?_))
  |refine Zaa (wpAny_typeNameOf_keyiter hi.typeIs (Zaf ?_))
 refine Zaa (wpAny_fieldsOf i1 i3 ?_);simp only[show Builtin.Dict_items.ownsTuple "dict_keyiterator"=false by decide,Zbg,Zbh]
 show wpAny _ _ (if(Value.ref d==.none)=true then _ else _) _ _ _
 rw[Zae (show ¬(Value.ref d==.none)=true from Zbf)];refine Zaa (Zaf (Zaa (wpAny_dictEntries e1 e3 ?_)));rw[Zae (by simp)]
 refine Zaa (Zaf (Zaa (wpAny_dictEpoch e1 e3 ?_)));rw[Zae (by simp)]
 refine Zaf ?_;simp only[show ¬((es.size:Int)<0) by omega,Zbh,ZaQ,ZbU (Zai _)]
 refine Zaa ?_
 first
  |refine Zaa (wpAny_typeNameOfWhole_keyiter hi.typeIs (Zaf ?_))
  |refine Zaa (wpAny_typeNameOf_keyiter hi.typeIs (Zaf ?_))
 show wpAny _ _ (setField (.ref it) 0 .none>>=_) _ _ _
 refine Zaa (wpAny_setField i1 i3 (by simp) ?_)
 show wpAny _ _ (newExc (.type "StopIteration") []>>=_) _ _ _
 refine Zaa ?_;simp only[newExc,newTuple];refine Zaa (wpAny_newObj_type ?_ (by size_fits))
 refine Zaa (m:=firstArgMember _ _) (wpAny_of_eq (a:=.none) (by first|rfl|(simp only[firstArgMember];rfl)) (wpAny_newObj_type ?_ (by size_fits)))
 simp only[raiseNew];refine Zaa (wpAny_handled ?_);rw[show A.in1.handled=none from hh];refine Zaa (Zaf (wpAny_throw ?_));refine Zaa (wpAny_isInstance (T:="StopIteration") (b:=true) ⟨_,Zar _ rfl,rfl⟩ isSubtype_stop ?_);exact Zaf (q _ (((ZbF ..).extBut.push _).push _))
theorem tu(hh:A.handled=none)(I d:Addr)(ne:d≠I)(es:Array DictEntry)(ep:Nat) :
  Walks prog w A I [I,d] [I] es.size (λi v=>∃ x,es[i]?=some x/\v=x.key) (λi h=>h.IsKeyIter I d i es.size ep/\oN h d es ep) where
 sub:=λb hb=>by simp at hb;simp[hb]
 frame:=λ_ _ _ z k=>⟨z.1.at λo e=>k I (by simp) o e,z.2.step λo e=>k d (by simp) o e⟩
 item:=λi s Q E lt z q=>NZ z.1 z.2 (ZaE lt) λh' a b=>q _ h' s.toks ⟨_,ZaE lt,rfl⟩ ⟨a,z.2.step λo e=>b.extBut d o ne e⟩ λc o hc e=>b.extBut c o (λy=>hc (by simp[y])) e
 done:=λs Q E z q=>Rq hh z.1 z.2 λh' b=>q h' s.toks λc o hc e=>b c o (λy=>hc (by simp[y])) e
 self:=λ_ _ _ _ z q=>wpAny_pyIter_keyiter z.1 q
theorem Rr(nd:(d==sysModules)=false):PySem.W.KdlSrc prog w "dict" d d es.size (λi v=>∃ x,es[i]?=some x/\v=x.key) (λh=>oN h d es ep) where
 type:=λ_ z=>z.ty
 there:=λ_ z=>⟨z.small,z.small⟩
 keep:=λ_ _ z k=>z.step λo e=>k d (.inl rfl) o e
 notList:=by decide
 notTuple:=by decide
 hint:=λ_ _ _ _ z q=>PySem.W.kdl_hint_dict z.ty q
 iter:=λ_ _ hh z=>⟨_,_,(λ_ _ q=>DK nd z q),tu hh _ d (ZaD z.small) es ep,⟨⟨_,Zar _ rfl,rfl,rfl⟩,z.step λ_ e=>Zad _ e⟩⟩
end
open PySem PySem.W PyProof.Rows
def kIn{α:Type}(n:Nat)(P:α->Prop):KasT α->Prop
 |.ret a=>P a
 |.ask i j k=>i<n/\j<n/\∀ b,kIn n P (k b)
open PySem PySem.Spec PySem.W PyProof PyProof.Rows
open PySem PySem.Spec PySem.W PyProof PyProof.Rows
theorem KT.at{H:Hp}{kvs:List (List Key×V)}{xs:List (List Key×Addr×Value)}(r:KT H kvs xs):xs.length=kvs.length/\∀ (i:Nat) k,(kvs.map (·.1))[i]?=some k->∃ b u,xs[i]?=some (k,b,u)/\H b=some (.tup (k.map kV)):=by
 induction r with
 |nil=>exact⟨rfl,λi k h=>by simp at h⟩
 |@cons p q ps qs hq t ih=>
  refine⟨by simp[ih.1],λi k h=>?_⟩
  cases i with
  |zero=>
   have h:p.1=k:=by simpa using h
   subst h;obtain⟨q1,b,u⟩:=q;exact⟨b,u,by rw[hq.1];rfl,hq.2.1⟩
  |succ i=>exact ih.2 i k (by simpa using h)
theorem vZ{α:Type}{f:α->V}{g:α->Value}:∀ {l:List α},(∀ i∈l,RelV (f i) (g i))->Vals (l.map f) (l.map g)
 |[],_=>.nil
 |i::l,h=>.cons (h i List.mem_cons_self) (vZ λj hj=>h j (List.mem_cons_of_mem _ hj))
namespace MP
section
theorem Up.tups{F H:Hp}{l:Addr}{o:HO}(s:aP F H)(hl:H l=none):Up F H (uy F H λ_=>False) (upd H l o):=by
 refine⟨iW s,di hl,λb o q=>?_,(qZ s).trans (di hl)⟩;by_cases hb:False\/∃ ys,H b=some (.tup ys)
 ·rw[fU hb] at q;obtain⟨ys,z⟩:=hb.resolve_left id;rw[z] at q;cases q;exact .inr (.inr ⟨ys,rfl⟩)
 ·rw[eY hb] at q;exact .inl q
end
end MP
end L2
namespace L2.MP
open PySem PySem.Spec PyProof.Rows
section
theorem DN{α:Type}{l:List α}{i:Nat}{x:α}(h:l[i]?=some x):l.set i x=l:=by
 apply ZbA
 intro j;rw[List.getElem?_set];split
 ·rename_i e;subst e;rw[Zag (cz h),h]
 ·rfl
theorem N5{α:Type}(l:List α)(i:Nat)(x y:α):(l.set i x).set i y=l.set i y:=by simp
end
end L2.MP
namespace L2
open PySem PySem.F PySem.Spec PyProof PyProof.Rows
namespace MP
end MP
open PySem PySem.Spec PyProof PyProof.Rows
namespace MP
end MP
open PySem PySem.Spec PySem.W PyProof PyProof.Rows
section
theorem yW:∀ {bs:List Addr}{its:List Value},Vals (bs.map V.ref) its->its=bs.map Value.ref
 |[],its,r=>by cases r;rfl
 |b::bs,its,r=>by
  cases r with
  |cons r1 r2=>
   cases r1;rw[yW r2];rfl
end
namespace MP
end MP
end L2
namespace L2.MP
open PySem PySem.Spec PyProof.Rows
end L2.MP
namespace L2
open PySem PySem.Spec PyProof PyProof.Rows
namespace MP
end MP
end L2
namespace L2.MP
open PySem PySem.Spec PyProof.Rows
section
variable{κ:Type}[DecidableEq κ]
def bM:List (κ×PV)->κ->PV->List (κ×PV)
 |[],k,p=>[(k,p)]
 |(a,q)::l,k,p=>if a=k then(a,p)::l else(a,q)::bM l k p
theorem n6{k:κ}{q:PV}:∀ {xs:List (κ×V)}{l:List (κ×PV)},xs.map (·.1)=l.map (·.1)->cQ l k=some q->∃ (j:Nat) (v:V),l[j]?=some (k,q)/\xs[j]?=some (k,v)/\iD xs k=some v/\∀ p,bM l k p=l.set j (k,p)
 |[],[],_,e=>by cases e
 |[],_::_,h,_=>by simp at h
 |_::_,[],h,_=>by simp at h
 |(a,v)::xs,(b,r)::l,h,e=>by
  simp only[Zan,Zbw] at h;obtain⟨h1,h2⟩:=h;have h1:a=b:=h1;subst h1;by_cases hk:a=k
  ·subst hk;unfold cQ at e;rw[Zag rfl] at e;cases e;exact⟨0,v,rfl,rfl,mJ rfl,λp=>by unfold bM;rw[Zag rfl];rfl⟩
  ·unfold cQ at e;rw[Zae hk] at e;obtain⟨j,w,e1,e2,e3,e4⟩:=n6 h2 e;exact⟨j+1,w,by simpa using e1,by simpa using e2,by rw[jf hk];exact e3,λp=>by rw[bM,Zae hk,e4];rfl⟩
theorem v8{k:κ}:∀ {xs:List (κ×V)}{l:List (κ×PV)},xs.map (·.1)=l.map (·.1)->cQ l k=none->iD xs k=none/\∀ p,bM l k p=l++[(k,p)]
 |[],[],_,_=>⟨rfl,λ_=>rfl⟩
 |[],_::_,h,_=>by simp at h
 |_::_,[],h,_=>by simp at h
 |(a,v)::xs,(b,r)::l,h,e=>by
  simp only[Zan,Zbw] at h;obtain⟨h1,h2⟩:=h;have h1:a=b:=h1;subst h1;by_cases hk:a=k
  ·unfold cQ at e;rw[Zag hk] at e;cases e
  ·unfold cQ at e;rw[Zae hk] at e;obtain⟨e1,e2⟩:=v8 h2 e;exact⟨by rw[jf hk];exact e1,λp=>by rw[bM,Zae hk,e2];rfl⟩
end
def TV(fe:Fn PV):Fn PV:=λρ=>bnd (fe ρ) λp=>if p.lC=true then some (.ok p) else none
theorem Vn{K:PySem.W.Frag}{C:Cg}{te:TE}{fe:Fn PV}(h:MO K C te fe):MD K C te (TV fe):=by
 intro F H σ ρ Q r R e P;rcases bK e with⟨z,e1,rfl⟩|⟨p,e1,hk⟩
 ·exact h F H σ ρ Q _ R e1 P
 ·split at hk
  ·rename_i hp;cases hk;refine h F H σ ρ Q _ R e1 λa F' H' u n1 n2 w=>P _ F' H' (λb=>b=a) u (w.dp hp) ?_;rintro b rfl;obtain⟨ob,eo⟩:=w.ne;exact⟨n1,n2,ob,eo,λys q=>by subst q;exact w.t6 eo⟩
  ·cases hk
section
variable{p:PV}
theorem N6{κ:Type}{l:List (κ×PV)}{j:Nat}{k:κ}{q p:PV}(h:l[j]?=some (k,q)):(l.set j (k,p)).map (·.1)=l.map (·.1):=by
 rw[List.map_set];exact DN (by rw[List.getElem?_map,h];rfl)
end
end L2.MP
namespace L2.TS
open PySem PySem.Spec PyProof.Rows
def iQ:Bool->Keyed->Array Keyed->Nat->Nat->Nat->StateT SortSt Sem (Option Nat):=sortPriv% PySem.Builtin.gallop
def eZ:Nat->StateT SortSt Sem Unit:=sortPriv% PySem.Builtin.setMinGallop
def v9:Array Keyed->Array Keyed->StateT SortSt Sem (Array Keyed):=sortPriv% PySem.Builtin.mergeLo
def wg:Array Keyed->Array Keyed->StateT SortSt Sem (Array Keyed):=sortPriv% PySem.Builtin.mergeHi
noncomputable abbrev bU(st:SortSt)(g:Nat):SortSt:=SortSt.mk' (kindOf st) (arrOf st) (pendingOf st) g (failedOf st)
theorem eO(g:Nat):eZ g=modify λs=>bU s g:=rfl
def beyond(left:Bool)(key:Keyed)(arr:Array Keyed)(base i:Nat):StateT SortSt Sem (Option Bool):=do
 let x <-elem' arr (base+i)
 if left then lt' x key else return (<-lt' key x).map (!·)
theorem Hm(left:Bool)(key:Keyed)(arr:Array Keyed)(base n hint:Nat):iQ left key arr base n hint=(do
 let mut lastofs:=0
 let mut ofs:=1
 let mut lo:=0
 let mut hi:=0
 let some right <-beyond left key arr base hint|return none
 if right then
  let maxofs:=n-hint
  for _ in [0:n] do
   if ofs>=maxofs then break
   let some more <-beyond left key arr base (hint+ofs)|return none
   if !more then break
   lastofs:=ofs
   ofs:=2*ofs+1
  lo:=hint+lastofs+1
  hi:=hint+min ofs maxofs
 else
  let maxofs:=hint+1
  for _ in [0:n] do
   if ofs>=maxofs then break
   let some found <-beyond left key arr base (hint-ofs)|return none
   if found then break
   lastofs:=ofs
   ofs:=2*ofs+1
  lo:=hint+1-min ofs maxofs
  hi:=hint-lastofs
 for _ in [0:n] do
  if lo>=hi then break
  let m:=lo+(hi-lo)/2
  let some more <-beyond left key arr base m|return none
  if more then lo:=m+1 else hi:=m
 return some hi):=rfl
section
variable{prog:Program}{w:World}{A:Around}{E:Value->Shared->Prop}{s:Shared}{κ:SortKind}{D:Keyed->Prop}{r:Keyed->Nat}{st:SortSt}{left:Bool}{key x y:Keyed}{arr:Array Keyed}{base n hint:Nat}
def Cmp(prog:Program)(w:World)(A:Around)(s:Shared)(κ:SortKind)(D:Keyed->Prop)(r:Keyed->Nat):Prop:=
 ∀ x y,D x->D y->∀ (E:Value->Shared->Prop) (Q:Bool->Shared->Prop),Q (decide (r x<r y)) s->wpAny (model prog w) A (keyLt' κ x.1 y.1) Q E s
theorem wj(hc:Cmp prog w A s κ D r)(hk:kindOf st=κ)(hx:D x)(hy:D y){Q:Option Bool->SortSt->Prop}(h:Q (some (decide (r x<r y))) st):wpS (model prog w) A E s (lt' x y) Q st:=by
 rw[lt'_eq];refine Zaq (wpS_get ?_);rw[hk];refine Zaq (wpS_lift (wpAny_attempt (hc x y hx hy _ _ ⟨rfl,?_⟩)));exact Zav h
theorem bF{M:Model}{i:Nat}{Q:Keyed->SortSt->Prop}(e:arr[i]?=some x)(h:Q x st):wpS M A E s (elem' arr i) Q st:=by
 rw[elem'_eq,e];exact Zav h
theorem Hn(hc:Cmp prog w A s κ D r)(hk:kindOf st=κ){i:Nat}(e:arr[base+i]?=some x)(hx:D x)(hy:D key)(ne:r x≠r key){Q:Option Bool->SortSt->Prop}(h:Q (some (decide (r x<r key))) st):wpS (model prog w) A E s (beyond left key arr base i) Q st:=by
 unfold beyond;refine Zaq (bF e ?_);cases left with
 |true=>exact wj hc hk hx hy h
 |false=>
  refine Zaq (wj hc hk hy hx (Zav ?_));rw[ZbD,show(!decide (r key<r x))=decide (r x<r key) by
   by_cases q:r key<r x
   ·rw[ZaB q,ZaC (by lia)];rfl
   ·rw[ZaC q,ZaB (by lia)];rfl]
  exact h
theorem q9{M:Model}{f:Nat->Bool}(hb:∀ i,i<n->∀ {Q:Option Bool->SortSt->Prop},Q (some (f i)) st->wpS M A E s (beyond left key arr base i) Q st){lo hi:Nat}(h1:lo<=hi)(h2:hi<=n)(h3:∀ i,i<lo->f i=true)(h4:∀ i,hi<=i->i<n->f i=false)
  (mono:∀ i j,i<=j->j<n->f j=true->f i=true){Q:Option Nat->SortSt->Prop}(h:∀ m,m<=n->(∀ i,i<m->f i=true)->(∀ i,m<=i->i<n->f i=false)->Q (some m) st) :
  wpS M A E s (do
   let mut lo:=lo
   let mut hi:=hi
   for _ in [0:n] do
    if lo>=hi then break
    let m:=lo+(hi-lo)/2
    let some more <-beyond left key arr base m|return none
    if more then lo:=m+1 else hi:=m
   return some hi) Q st:=by
 refine Zaq (Za0 (Za9 (I:=λk c st'=>st'=st/\∃ lo hi,c=(none,lo,hi)/\lo<=hi/\hi<=n/\(∀ i,i<lo->f i=true)/\(∀ i,hi<=i->i<n->f i=false)/\hi-lo+k<=n)
  (Q:=λc st'=>st'=st/\∃ m,c=(none,m,m)/\m<=n/\(∀ i,i<m->f i=true)/\(∀ i,m<=i->i<n->f i=false)) ?_ ?_ ⟨rfl,lo,hi,rfl,h1,h2,h3,h4,by omega⟩) ?_)
 ·rintro k c st' _ hk ⟨rfl,lo,hi,rfl,g1,g2,g3,g4,g5⟩;dsimp only;by_cases q:lo>=hi
  ·rw[Zag q];have:lo=hi:=by omega
   subst this;exact Zav ⟨rfl,lo,rfl,g2,g3,g4⟩
  ·rw[Zae q];have mlt:lo+(hi-lo)/2<hi:=by omega
   refine Zaq (hb _ (by omega) ?_)
   dsimp only;cases e:f (lo+(hi-lo)/2) with
   |true=>
    rw[Zag rfl];exact Zav ⟨rfl,_,hi,rfl,by omega,g2,λi hi'=>mono i _ (by omega) (by omega) e,g4,by omega⟩
   |false=>
    rw[Zae (by decide)]
    refine Zav ⟨rfl,lo,_,rfl,by omega,by omega,g3,λi h1' h2'=>?_,by omega⟩
    cases ef:f i with
    |false=>rfl
    |true=>rw[mono _ i h1' h2' ef] at e;cases e
 ·rintro c st' ⟨rfl,lo,hi,rfl,g1,g2,g3,g4,g5⟩;have:lo=hi:=by omega
  subst this;exact⟨rfl,lo,rfl,g2,g3,g4⟩
 ·rintro c st' ⟨rfl,m,rfl,g1,g2,g3⟩;exact Zav (h m g1 g2 g3)
theorem DP{M:Model}{f:Nat->Bool}(hb:∀ i,i<n->∀ {Q:Option Bool->SortSt->Prop},Q (some (f i)) st->wpS M A E s (beyond left key arr base i) Q st)(mono:∀ i j,i<=j->j<n->f j=true->f i=true)(hn:hint<n){Q:Option Nat->SortSt->Prop}
  (h:∀ m,m<=n->(∀ i,i<m->f i=true)->(∀ i,m<=i->i<n->f i=false)->Q (some m) st):wpS M A E s (iQ left key arr base n hint) Q st:=by
 have anti:∀ i j,i<=j->j<n->f i=false->f j=false:=λi j h1 h2 e=>by
  cases ef:f j with
  |false=>rfl
  |true=>rw[mono i j h1 h2 ef] at e;cases e
 rw[Hm];refine Zaq (hb hint hn ?_);dsimp only;cases e:f hint with
 |true=>
  simp only[ZbI];refine Zaq (Za0 (Za9 (I:=λk c st'=>st'=st/\∃ la of,c=(none,la,of)/\la<of/\hint+la<n/\f (hint+la)=true/\k+1<=of)
   (Q:=λc st'=>st'=st/\∃ la of,c=(none,la,of)/\la<of/\hint+la<n/\f (hint+la)=true/\(n-hint<=of\/(hint+of<n/\f (hint+of)=false))) ?_ ?_ ⟨rfl,0,1,rfl,by omega,hn,e,by omega⟩) ?_)
  ·rintro k c st' _ hk ⟨rfl,la,of,rfl,g1,g2,g3,g4⟩;dsimp only;by_cases q:of>=n-hint
   ·rw[Zag q];exact Zav ⟨rfl,la,of,rfl,g1,g2,g3,.inl q⟩
   ·rw[Zae q];refine Zaq (hb _ (by omega) ?_)
    dsimp only;cases e2:f (hint+of) with
    |true=>
     rw[Zae (by decide)]
     exact Zav ⟨rfl,of,_,rfl,by omega,by omega,e2,by omega⟩
    |false=>
     rw[Zag (by decide)]
     exact Zav ⟨rfl,la,of,rfl,g1,g2,g3,.inr ⟨by omega,e2⟩⟩
  ·rintro c st' ⟨rfl,la,of,rfl,g1,g2,g3,g4⟩;exact⟨rfl,la,of,rfl,g1,g2,g3,.inl (by omega)⟩
  ·rintro c st' ⟨rfl,la,of,rfl,g1,g2,g3,g4⟩;refine q9 (lo:=hint+la+1) (hi:=hint+min of (n-hint)) hb (by omega) (by omega) (λi hi=>mono i (hint+la) (by omega) g2 g3) (λi h1 h2=>?_) mono h
   rcases g4 with q|⟨q1,q2⟩
   ·omega
   ·exact anti (hint+of) i (by omega) h2 q2
 |false=>
  simp only[Zbg,Zbh];refine Zaq (Za0 (Za9 (I:=λk c st'=>st'=st/\∃ la of,c=(none,la,of)/\la<of/\la<=hint/\f (hint-la)=false/\k+1<=of)
   (Q:=λc st'=>st'=st/\∃ la of,c=(none,la,of)/\la<of/\la<=hint/\f (hint-la)=false/\(hint+1<=of\/(of<=hint/\f (hint-of)=true))) ?_ ?_ ⟨rfl,0,1,rfl,by omega,by omega,e,by omega⟩) ?_)
  ·rintro k c st' _ hk ⟨rfl,la,of,rfl,g1,g2,g3,g4⟩;dsimp only;by_cases q:of>=hint+1
   ·rw[Zag q];exact Zav ⟨rfl,la,of,rfl,g1,g2,g3,.inl q⟩
   ·rw[Zae q];refine Zaq (hb _ (by omega) ?_)
    dsimp only;cases e2:f (hint-of) with
    |true=>
     rw[Zag rfl];exact Zav ⟨rfl,la,of,rfl,g1,g2,g3,.inr ⟨by omega,e2⟩⟩
    |false=>
     rw[Zae (by decide)]
     exact Zav ⟨rfl,of,_,rfl,by omega,by omega,e2,by omega⟩
  ·rintro c st' ⟨rfl,la,of,rfl,g1,g2,g3,g4⟩;exact⟨rfl,la,of,rfl,g1,g2,g3,.inl (by omega)⟩
  ·rintro c st' ⟨rfl,la,of,rfl,g1,g2,g3,g4⟩;refine q9 (lo:=hint+1-min of (hint+1)) (hi:=hint-la) hb (by omega) (by omega) (λi hi=>?_) (λi h1 h2=>anti (hint-la) i (by omega) h2 g3) mono h
   rcases g4 with q|⟨q1,q2⟩
   ·omega
   ·exact mono i (hint-of) (by omega) (by omega) q2
end
theorem DQ(i:Nat):mergeAt' i=(do
 let s <-get
 let(some (sa,na,power),some (sb,nb,_)):=((pendingOf s)[i]?,(pendingOf s)[i+1]?)|unsupported "internal:list.sort.pending"
 set (setPending s (((pendingOf s).setIfInBounds i (sa,na+nb,power)).eraseIdxIfInBounds (i+1)))
 let some k <-iQ false (<-elem' (arrOf s) sb) (arrOf s) sa na 0|return false
 let(sa,na):=(sa+k,na-k)
 if na==0 then return true
 let some nb <-iQ true (<-elem' (arrOf s) (sa+na-1)) (arrOf s) sb nb (nb-1)|return false
 if nb==0 then return true
 let x:=(arrOf s).extract sa sb
 let y:=(arrOf s).extract sb (sb+nb)
 let merged <-if na<=nb then v9 x y else wg x y
 modify λs=>setArr s (merged.toList.zipIdx.foldl (λa (p,j)=>a.setIfInBounds (sa+j) p) (arrOf s))
 return (failedOf (<-get)).isNone):=rfl
section
variable{r:Keyed->Nat}{la lb out:List Keyed}{ia ib:Nat}
def Srt(r:Keyed->Nat)(l:List Keyed):Prop:=l.Pairwise λx y=>r x<r y
structure Mg(r:Keyed->Nat)(la lb out:List Keyed)(ia ib:Nat):Prop where
 so:Srt r out
 lt:∀ o∈out,∀ z∈la.drop ia++lb.drop ib,r o<r z
 pm:out.Perm (la.take ia++lb.take ib)
theorem Mg.as(h:Mg r la lb out ia ib)(sa:Srt r la)(k:Nat)(hk:∀ x∈(la.drop ia).take k,∀ y∈lb.drop ib,r x<r y):Mg r la lb (out++(la.drop ia).take k) (ia+k) ib:=by
 have sd:Srt r (la.drop ia):=Zao (ZaV _ _) sa;have e:la.drop (ia+k)=(la.drop ia).drop k:=by rw[List.drop_drop]
 refine⟨Zat.mpr ⟨h.so,Zao (ZaP _ _) sd,λo ho x hx=>h.lt o ho x (Zah.mpr (.inl (ZaO hx)))⟩,λo ho z hz=>?_,?_⟩
 ·rw[e] at hz;rcases Zah.mp ho with q|q
  ·refine h.lt o q z ?_;rcases Zah.mp hz with w|w
   ·exact Zah.mpr (.inl (ZaU w))
   ·exact Zah.mpr (.inr w)
  ·rcases Zah.mp hz with w|w
   ·have:=sd;rw[<-ZaI k (la.drop ia)] at this;exact(Zat.mp this).2.2 o q z w
   ·exact hk o q z w
 ·rw[List.take_add];refine(h.pm.append_right _).trans ?_;rw[Zax,Zax];exact Za2 _ List.perm_append_comm
theorem Mg.bs(h:Mg r la lb out ia ib)(sb:Srt r lb)(k:Nat)(hk:∀ y∈(lb.drop ib).take k,∀ x∈la.drop ia,r y<r x):Mg r la lb (out++(lb.drop ib).take k) ia (ib+k):=by
 have sd:Srt r (lb.drop ib):=Zao (ZaV _ _) sb;have e:lb.drop (ib+k)=(lb.drop ib).drop k:=by rw[List.drop_drop]
 refine⟨Zat.mpr ⟨h.so,Zao (ZaP _ _) sd,λo ho x hx=>h.lt o ho x (Zah.mpr (.inr (ZaO hx)))⟩,λo ho z hz=>?_,?_⟩
 ·rw[e] at hz;rcases Zah.mp ho with q|q
  ·refine h.lt o q z ?_;rcases Zah.mp hz with w|w
   ·exact Zah.mpr (.inl w)
   ·exact Zah.mpr (.inr (ZaU w))
  ·rcases Zah.mp hz with w|w
   ·exact hk o q z w
   ·have:=sd;rw[<-ZaI k (lb.drop ib)] at this;exact(Zat.mp this).2.2 o q z w
 ·rw[List.take_add,<-Zax];exact h.pm.append_right _
theorem Mg.end(h:Mg r la lb out ia ib)(sa:Srt r la)(sb:Srt r lb)(hk:∀ x∈la.drop ia,∀ y∈lb.drop ib,r x<r y):Srt r (out++la.drop ia++lb.drop ib)/\(out++la.drop ia++lb.drop ib).Perm (la++lb):=by
 refine⟨?_,?_⟩
 ·rw[Zax];refine Zat.mpr ⟨h.so,Zat.mpr ⟨Zao (ZaV _ _) sa,Zao (ZaV _ _) sb,hk⟩,h.lt⟩
 ·have e:(la++lb).Perm (la.take ia++lb.take ib++(la.drop ia++lb.drop ib)):=by
   conv=>lhs;rw[<-ZaI ia la,<-ZaI ib lb]
   simp only[Zax];refine Za2 _ ?_;rw[<-Zax,<-Zax];exact ZbV _ List.perm_append_comm
  rw[Zax];exact(h.pm.append_right _).trans e.symm
theorem Mg.Vo(h:Mg r la lb out ia ib)(sa:Srt r la)(sb:Srt r lb)(hk:∀ x∈la.drop ia,∀ y∈lb.drop ib,r y<r x):Srt r (out++lb.drop ib++la.drop ia)/\(out++lb.drop ib++la.drop ia).Perm (la++lb):=by
 refine⟨?_,?_⟩
 ·rw[Zax];exact Zat.mpr ⟨h.so,Zat.mpr ⟨Zao (ZaV _ _) sb,Zao (ZaV _ _) sa,λy hy x hx=>hk x hx y hy⟩,λo ho z hz=>h.lt o ho z (by
   rcases Zah.mp hz with q|q
   ·exact Zah.mpr (.inr q)
   ·exact Zah.mpr (.inl q))⟩
 ·have e:(la++lb).Perm (la.take ia++lb.take ib++(lb.drop ib++la.drop ia)):=by
   conv=>lhs;rw[<-ZaI ia la,<-ZaI ib lb]
   simp only[Zax];refine Za2 _ ?_;refine List.perm_append_comm.trans ?_;rw[Zax]
  rw[Zax];exact(h.pm.append_right _).trans e.symm
end
noncomputable abbrev S7:=Option (Array Keyed)×Array Keyed×Nat×Nat×Nat×Nat×Nat
noncomputable abbrev S6:=Option (Array Keyed)×Array Keyed×Nat×Nat×Nat×Nat
noncomputable abbrev S5:=Option (Array Keyed)×Array Keyed×Nat×Nat×Nat
noncomputable abbrev dnL(a b out:Array Keyed)(ia ib:Nat):Array Keyed:=out++a.extract ia a.size++b.extract ib b.size
noncomputable abbrev laL(a b out:Array Keyed)(ia ib:Nat):Array Keyed:=out++b.extract ib b.size++a.extract ia a.size
def N7(a b out:Array Keyed)(ia ib mg ac bc:Nat):StateT SortSt Sem (ForInStep S7):=do
 let x <-elem' a ia
 if ia+1+1==a.size then return .done (some (laL a b (out.push x) (ia+1) ib),out.push x,ia+1,ib,mg,ac,bc)
 if ac<7&&bc<7 then return .done (none,out.push x,ia+1,ib,mg,ac,bc)
 return .yield (none,out.push x,ia+1,ib,mg,ac,bc)
def N8(a b out:Array Keyed)(ia ib mg ac bc:Nat):StateT SortSt Sem (ForInStep S7):=do
 let y <-elem' b ib
 if ib+1==b.size then return .done (some (dnL a b (out.push y) ia (ib+1)),out.push y,ia,ib+1,mg,ac,bc)
 let some k <-iQ true (<-elem' a ia) b (ib+1) (b.size-(ib+1)) 0|return .done (some (dnL a b (out.push y) ia (ib+1)),out.push y,ia,ib+1,mg,ac,bc)
 if k>0 then
  if ib+1+k==b.size then return .done (some (dnL a b (out.push y++b.extract (ib+1) (ib+1+k)) ia (ib+1+k)),out.push y++b.extract (ib+1) (ib+1+k),ia,ib+1+k,mg,ac,k)
  N7 a b (out.push y++b.extract (ib+1) (ib+1+k)) ia (ib+1+k) mg ac k
 else N7 a b (out.push y) ia (ib+1) mg ac k
def Rt(a b out:Array Keyed)(ia ib mg ac bc:Nat):StateT SortSt Sem (ForInStep S7):=do
 eZ mg
 let some k <-iQ false (<-elem' b ib) a ia (a.size-ia) 0|return .done (some (dnL a b out ia ib),out,ia,ib,mg,ac,bc)
 if k>0 then
  if ia+k+1==a.size then return .done (some (laL a b (out++a.extract ia (ia+k)) (ia+k) ib),out++a.extract ia (ia+k),ia+k,ib,mg,k,bc)
  if ia+k==a.size then return .done (some (dnL a b (out++a.extract ia (ia+k)) (ia+k) ib),out++a.extract ia (ia+k),ia+k,ib,mg,k,bc)
  N8 a b (out++a.extract ia (ia+k)) (ia+k) ib mg k bc
 else N8 a b out ia ib mg k bc
def Vp(a b:Array Keyed)(c:S7):StateT SortSt Sem (ForInStep S7):=
 if c.2.2.2.2.1>1 then Rt a b c.2.1 c.2.2.1 c.2.2.2.1 (c.2.2.2.2.1-1) c.2.2.2.2.2.1 c.2.2.2.2.2.2 else Rt a b c.2.1 c.2.2.1 c.2.2.2.1 c.2.2.2.2.1 c.2.2.2.2.2.1 c.2.2.2.2.2.2
def Vq(a b:Array Keyed)(mg:Nat)(c:S6):StateT SortSt Sem (ForInStep S6):=do
 let some bWins <-lt' (<-elem' b c.2.2.2.1) (<-elem' a c.2.2.1)|return .done (some (dnL a b c.2.1 c.2.2.1 c.2.2.2.1),c.2.1,c.2.2.1,c.2.2.2.1,c.2.2.2.2.1,c.2.2.2.2.2)
 if bWins then
  let y <-elem' b c.2.2.2.1
  if c.2.2.2.1+1==b.size then return .done (some (dnL a b (c.2.1.push y) c.2.2.1 (c.2.2.2.1+1)),c.2.1.push y,c.2.2.1,c.2.2.2.1+1,0,c.2.2.2.2.2+1)
  if c.2.2.2.2.2+1>=mg then return .done (none,c.2.1.push y,c.2.2.1,c.2.2.2.1+1,0,c.2.2.2.2.2+1)
  return .yield (none,c.2.1.push y,c.2.2.1,c.2.2.2.1+1,0,c.2.2.2.2.2+1)
 else
  let x <-elem' a c.2.2.1
  if c.2.2.1+1+1==a.size then return .done (some (laL a b (c.2.1.push x) (c.2.2.1+1) c.2.2.2.1),c.2.1.push x,c.2.2.1+1,c.2.2.2.1,c.2.2.2.2.1+1,0)
  if c.2.2.2.2.1+1>=mg then return .done (none,c.2.1.push x,c.2.2.1+1,c.2.2.2.1,c.2.2.2.2.1+1,0)
  return .yield (none,c.2.1.push x,c.2.2.1+1,c.2.2.2.1,c.2.2.2.2.1+1,0)
def Vr(a b:Array Keyed)(c:S5):StateT SortSt Sem (ForInStep S5):=do
 let d <-forIn [0:a.size+b.size] ((none,c.2.1,c.2.2.1,c.2.2.2.1,0,0):S6) λ_ d=>Vq a b c.2.2.2.2 d
 match d.1 with
 |some r=>pure (.done (some r,d.2.1,d.2.2.1,d.2.2.2.1,c.2.2.2.2))
 |none=>do
  rule "list.sort.gallop"
  let e <-forIn [0:a.size+b.size] ((none,d.2.1,d.2.2.1,d.2.2.2.1,c.2.2.2.2+1,d.2.2.2.2.1,d.2.2.2.2.2):S7) λ_ e=>Vp a b e
  match e.1 with
  |some r=>pure (.done (some r,e.2.1,e.2.2.1,e.2.2.2.1,e.2.2.2.2.1))
  |none=>do
   eZ (e.2.2.2.2.1+1)
   pure (.yield (none,e.2.1,e.2.2.1,e.2.2.2.1,e.2.2.2.2.1+1))
def DR(a b:Array Keyed):StateT SortSt Sem (Array Keyed):=do
 rule "list.sort.merge-lo"
 let y <-elem' b 0
 if 1==b.size then return dnL a b #[y] 0 1
 if 0+1==a.size then return laL a b #[y] 0 1
 let s <-get
 let c <-forIn [0:a.size+b.size] ((none,#[y],0,1,gallopOf s):S5) λ_ c=>Vr a b c
 match c.1 with
 |some r=>pure r
 |none=>unsupported "internal:list.sort.merge-bound"
theorem DW(a b:Array Keyed):v9 a b=DR a b:=by
 kernel_rfl
section
variable{prog:Program}{w:World}{A:Around}{E:Value->Shared->Prop}{s:Shared}{κ:SortKind}{D:Keyed->Prop}{r:Keyed->Nat}{st:SortSt}{a b:Array Keyed}
theorem j7{M:Model}{x:String}{Q:Unit->SortSt->Prop}(h:Q () st):wpS M A E s (rule x:StateT SortSt Sem Unit) Q st:=wpS_lift (wpAny_rule ⟨rfl,h⟩)
theorem ext_toList(a:Array Keyed)(i j:Nat)(h:i<=j)(hj:j<=a.size):(a.extract i j).toList=(a.toList.drop i).take (j-i):=by
 simp[Array.toList_extract,List.extract]
theorem uN(a:Array Keyed)(i:Nat):(a.extract i a.size).toList=a.toList.drop i:=by
 rw[Array.toList_extract];simp[List.extract];exact Zba (by simp)
structure Bc(D:Keyed->Prop)(r:Keyed->Nat)(a b:Array Keyed):Prop where
 da:∀ x∈a.toList,D x
 db:∀ x∈b.toList,D x
 sa:Srt r a.toList
 sb:Srt r b.toList
 ne:∀ x∈a.toList,∀ y∈b.toList,r x≠r y
 la:∀ x,a.toList[a.size-1]?=some x->∀ y∈b.toList,r y<r x
def Good(r:Keyed->Nat)(a b out:Array Keyed):Prop:=Srt r out.toList/\out.toList.Perm (a.toList++b.toList)
theorem rm{out:Array Keyed}{ia ib:Nat}(o:Bc D r a b)(m:Mg r a.toList b.toList out.toList ia ib)(h:ib=b.size\/ia=a.size):Good r a b (dnL a b out ia ib):=by
 have e:=m.end o.sa o.sb (λx hx y hy=>by
  rcases h with q|q
  ·rw[q,Zbj (by simp)] at hy;cases hy
  ·rw[q,Zbj (by simp)] at hx;cases hx)
 unfold Good dnL;rw[ZaS,ZaS,uN,uN];exact e
theorem uO{out:Array Keyed}{ia ib:Nat}(o:Bc D r a b)(m:Mg r a.toList b.toList out.toList ia ib)(h:ia+1=a.size):Good r a b (laL a b out ia ib):=by
 have e:=m.Vo o.sa o.sb (λx hx y hy=>by
  have:a.toList.drop ia=[a.toList[ia]'(by simp;lia)]:=by
   rw[ZaW (by simp;lia),Zbj (by simp;lia)]
  rw[this,ZaK] at hx;refine o.la x ?_ y (ZaU hy);rw[hx,show a.size-1=ia by lia]
  exact List.getElem?_eq_getElem (by simp;lia))
 unfold Good laL;rw[ZaS,ZaS,uN,uN];exact e
theorem gD{left:Bool}{key:Keyed}{arr:Array Keyed}{base n hint:Nat}{L:List Keyed}(hc:Cmp prog w A s κ D r)(hk:kindOf st=κ)(hn:hint<n)(hb:base+n<=arr.size)(hL:(arr.toList.drop base).take n=L)(dk:D key)(dl:∀ x∈L,D x/\r x≠r key)(sl:Srt r L){Q:Option Nat->SortSt->Prop}
  (h:∀ k,k<=n->(∀ x∈L.take k,r x<r key)->(∀ x∈L.drop k,r key<r x)->Q (some k) st):wpS (model prog w) A E s (iQ left key arr base n hint) Q st:=by
 have ll:L.length=n:=by rw[<-hL];simp;lia
 have at_:∀ i (hi:i<n),arr[base+i]?=some (L[i]'(by lia)):=λi hi=>by
  rw[<-ZaH];have:L[i]?=arr.toList[base+i]?:=by
   rw[<-hL,List.getElem?_take,Zag hi,List.getElem?_drop]
  rw[<-this,List.getElem?_eq_getElem]
 have mem:∀ i (hi:i<n),L[i]'(by lia)∈L:=λi hi=>List.getElem_mem _
 refine DP (f:=λi=>if hi:i<n then decide (r (L[i]'(by lia))<r key) else false) (λi hi Q q=>?_) (λi j hij hj e=>?_) hn λm hm g1 g2=>?_
 ·rw[dif_pos hi] at q;exact Hn hc hk (at_ i hi) (dl _ (mem i hi)).1 dk (dl _ (mem i hi)).2 q
 ·rw[dif_pos hj] at e;rw[dif_pos (by lia)]
  have e:=of_decide_eq_true e;refine ZaB ?_;by_cases q:i=j
  ·subst q;exact e
  ·exact Nat.lt_trans (ZbL.mp sl i j (by lia) (by lia) (by lia)) e
 ·refine h m hm (λx hx=>?_) λx hx=>?_
  ·obtain⟨i,hi,rfl⟩:=List.mem_iff_getElem.mp hx;rw[List.length_take] at hi;have:=g1 i (by lia)
   rw[dif_pos (by lia)] at this
   rw[List.getElem_take];exact of_decide_eq_true this
  ·obtain⟨i,hi,rfl⟩:=List.mem_iff_getElem.mp hx;rw[List.length_drop] at hi;have:=g2 (m+i) (by lia) (by lia)
   rw[dif_pos (by lia)] at this
   rw[List.getElem_drop];have t1:=of_decide_eq_false this;have t2:=(dl _ (mem (m+i) (by lia))).2
   lia
structure In(r:Keyed->Nat)(a b out:Array Keyed)(ia ib:Nat):Prop where
 mg:Mg r a.toList b.toList out.toList ia ib
 ha:ia+1<a.size
 hb:ib<b.size
def P7(r:Keyed->Nat)(a b:Array Keyed)(n:Nat):ForInStep S7->Prop
 |.done (some o,_)=>Good r a b o
 |.done (none,out,ia,ib,_)=>In r a b out ia ib/\n<=ia+ib
 |.yield (none,out,ia,ib,_)=>In r a b out ia ib/\n<=ia+ib
 |.yield (some _,_)=>False
theorem take1{l:List Keyed}{i:Nat}{x:Keyed}(h:l[i]?=some x):(l.drop i).take 1=[x]/\l.drop i=x::l.drop (i+1):=by
 have hi:=(Zac.mp h).1;have e:l.drop i=x::l.drop (i+1):=by
  rw[ZaW hi];congr 1
  rw[List.getElem?_eq_getElem hi] at h;exact Zab h
 rw[e];exact⟨rfl,rfl⟩
theorem m5{l:List Keyed}{i:Nat}{x:Keyed}(sl:Srt r l)(h:l[i]?=some x):∀ z∈l.drop i,r x<=r z:=λz hz=>by
 have:=Zao (ZaV i l) sl;rw[(take1 h).2] at hz this;rcases Zaw.mp hz with q|q
 ·rw[q];exact Zai _
 ·exact ZaM ((List.pairwise_cons.mp this).1 z q)
theorem Ru{M:Model}{out:Array Keyed}{ia ib mg ac bc:Nat}(o:Bc D r a b)(i:In r a b out ia ib)(hx:∀ x,a.toList[ia]?=some x->∀ y∈b.toList.drop ib,r x<r y) :
  wpS M A E s (N7 a b out ia ib mg ac bc) (λc st'=>st'=st/\P7 r a b (ia+ib+1) c) st:=by
 obtain⟨x,ex⟩:∃ x,a.toList[ia]?=some x:=⟨_,List.getElem?_eq_getElem (by have:=i.ha;simp;lia)⟩
 have t1:=take1 ex;have m:Mg r a.toList b.toList (out.push x).toList (ia+1) ib:=by
  have:=i.mg.as o.sa 1 (by rw[t1.1];intro z hz;rw[ZaK.mp hz];exact hx x ex)
  rw[t1.1] at this;rw[ZbB];exact this
 have ha:=i.ha;have hb:=i.hb;unfold N7;refine Zaq (bF (x:=x) (by rw[<-ZaH];exact ex) ?_)
 by_cases q:ia+1+1=a.size
 ·rw[Zag (by simpa using q)]
  exact Zav ⟨rfl,uO o m q⟩
 ·rw[Zae (by simpa using q)]
  have I:In r a b (out.push x) (ia+1) ib:=⟨m,by lia,hb⟩
  split
  ·exact Zav ⟨rfl,I,by lia⟩
  ·exact Zav ⟨rfl,I,by lia⟩
end
section
variable{prog:Program}{w:World}{A:Around}{E:Value->Shared->Prop}{s:Shared}{κ:SortKind}{D:Keyed->Prop}{r:Keyed->Nat}{st:SortSt}{a b:Array Keyed}
theorem P7.mono{n m:Nat}(h:n<=m):∀ {c:ForInStep S7},P7 r a b m c->P7 r a b n c
 |.done (some _,_),p=>p
 |.done (none,_,_,_,_),p=>⟨p.1,ZaF h p.2⟩
 |.yield (none,_,_,_,_),p=>⟨p.1,ZaF h p.2⟩
 |.yield (some _,_),p=>p
theorem getL{l:Array Keyed}{i:Nat}(h:i<l.size):∃ x,l.toList[i]?=some x/\l[i]?=some x:=⟨_,List.getElem?_eq_getElem (by simpa using h),by rw[ZaE h,Array.getElem_toList]⟩
theorem my{l:Array Keyed}{i:Nat}{x:Keyed}(h:l.toList[i]?=some x):x∈l.toList:=Zal h
theorem yX(l:Array Keyed)(i:Nat)(h:i<=l.size):(l.toList.drop i).take (l.size-i)=l.toList.drop i:=Zba (by simp)
theorem Rv{out:Array Keyed}{ia ib mg ac bc:Nat}(hc:Cmp prog w A s κ D r)(hk:kindOf st=κ)(o:Bc D r a b)(i:In r a b out ia ib)(hy:∀ y,b.toList[ib]?=some y->∀ x∈a.toList.drop ia,r y<r x) :
  wpS (model prog w) A E s (N8 a b out ia ib mg ac bc) (λc st'=>st'=st/\P7 r a b (ia+ib+1) c) st:=by
 have ha:=i.ha;have hb:=i.hb;obtain⟨y,ey,ey'⟩:=getL hb;have t1:=take1 ey;have m:Mg r a.toList b.toList (out.push y).toList ia (ib+1):=by
  have:=i.mg.bs o.sb 1 (by rw[t1.1];intro z hz;rw[ZaK.mp hz];exact hy y ey)
  rw[t1.1] at this;rw[ZbB];exact this
 unfold N8;refine Zaq (bF ey' ?_);by_cases q:ib+1=b.size
 ·rw[Zag (by simpa using q)]
  exact Zav ⟨rfl,rm o m (.inl q)⟩
 ·rw[Zae (by simpa using q)]
  obtain⟨x,ex,ex'⟩:=getL (l:=a) (i:=ia) (by omega)
  refine Zaq (bF ex' ?_);refine Zaq (gD hc hk (by omega) (by omega) (yX b (ib+1) (by omega)) (o.da x (my ex)) (λz hz=>⟨o.db z (ZaU hz),λe=>o.ne x (my ex) z (ZaU hz) e.symm⟩) (Zao (ZaV _ _) o.sb) λk hk' g1 g2=>?_)
  dsimp only;rw[List.drop_drop] at g2;have fin:∀ {o2:Array Keyed}{j:Nat},Mg r a.toList b.toList o2.toList ia j->j=ib+1+k->¬j=b.size->wpS (model prog w) A E s (N7 a b o2 ia j mg ac k) (λc st'=>st'=st/\P7 r a b (ia+ib+1) c) st:=λ{o2 j} m2 e ne=>by
   refine Za0 (Ru o ⟨m2,ha,by omega⟩ λx' ex2 z hz=>?_) λc st' p=>⟨p.1,P7.mono (by omega) p.2⟩
   rw[ex] at ex2;cases ex2;rw[e] at hz;exact g2 z hz
  by_cases q2:k>0
  ·rw[Zag q2];have m2:Mg r a.toList b.toList (out.push y++b.extract (ib+1) (ib+1+k)).toList ia (ib+1+k):=by
    have:=m.bs o.sb k λz hz x' hx'=>Zap (g1 z hz) (m5 o.sa ex x' hx');rw[ZaS,ext_toList b _ _ (by omega) (by omega),ZbO]
    exact this
   by_cases q3:ib+1+k=b.size
   ·rw[Zag (by simpa using q3)]
    exact Zav ⟨rfl,rm o m2 (.inl q3)⟩
   ·rw[Zae (by simpa using q3)]
    exact fin m2 rfl q3
  ·rw[Zae q2];exact fin m (by omega) (by omega)
theorem Ja{out:Array Keyed}{ia ib mg ac bc:Nat}(hc:Cmp prog w A s κ D r)(hk:kindOf st=κ)(o:Bc D r a b)(i:In r a b out ia ib) :
  wpS (model prog w) A E s (Rt a b out ia ib mg ac bc) (λc st'=>st'=bU st mg/\P7 r a b (ia+ib+1) c) st:=by
 have ha:=i.ha;have hb:=i.hb;obtain⟨y,ey,ey'⟩:=getL hb;unfold Rt;rw[eO];refine Zaq (wpS_modify ?_);refine Zaq (bF ey' ?_);refine Zaq (gD hc (show kindOf (bU st mg)=κ from hk) (by omega) (by omega) (yX a ia (by omega)) (o.db y (my ey)) (λz hz=>⟨o.da z (ZaU hz),λe=>o.ne z (ZaU hz) y (my ey) e⟩) (Zao (ZaV _ _) o.sa) λk hk' g1 g2=>?_)
 dsimp only;rw[List.drop_drop] at g2;have fin:∀ {o2:Array Keyed}{j:Nat},Mg r a.toList b.toList o2.toList j ib->j=ia+k->j+1<a.size->wpS (model prog w) A E s (N8 a b o2 j ib mg k bc) (λc st'=>st'=bU st mg/\P7 r a b (ia+ib+1) c) (bU st mg):=λ{o2 j} m2 e ne=>by
  refine Za0 (Rv hc (show kindOf (bU st mg)=κ from hk) o ⟨m2,ne,hb⟩ λy' ey2 z hz=>?_) λc st' p=>⟨p.1,P7.mono (by omega) p.2⟩
  rw[ey] at ey2;cases ey2;rw[e] at hz;exact g2 z hz
 by_cases q2:k>0
 ·rw[Zag q2];have m2:Mg r a.toList b.toList (out++a.extract ia (ia+k)).toList (ia+k) ib:=by
   have:=i.mg.as o.sa k λx hx z hz=>Zap (g1 x hx) (m5 o.sb ey z hz);rw[ZaS,ext_toList a _ _ (by omega) (by omega),ZbO]
   exact this
  by_cases q3:ia+k+1=a.size
  ·rw[Zag (by simpa using q3)]
   exact Zav ⟨rfl,uO o m2 q3⟩
  ·rw[Zae (by simpa using q3)]
   by_cases q4:ia+k=a.size
   ·rw[Zag (by simpa using q4)]
    exact Zav ⟨rfl,rm o m2 (.inr q4)⟩
   ·rw[Zae (by simpa using q4)]
    exact fin m2 rfl (by omega)
 ·rw[Zae q2];exact fin i.mg (by omega) (by omega)
theorem Rw{c:S7}(hc:Cmp prog w A s κ D r)(hk:kindOf st=κ)(o:Bc D r a b)(i:In r a b c.2.1 c.2.2.1 c.2.2.2.1) :
  wpS (model prog w) A E s (Vp a b c) (λc' st'=>(∃ g,st'=bU st g)/\P7 r a b (c.2.2.1+c.2.2.2.1+1) c') st:=by
 unfold Vp;split
 ·exact Za0 (Ja hc hk o i) λc' st' p=>⟨⟨_,p.1⟩,p.2⟩
 ·exact Za0 (Ja hc hk o i) λc' st' p=>⟨⟨_,p.1⟩,p.2⟩
def P6(r:Keyed->Nat)(a b:Array Keyed)(n:Nat):ForInStep S6->Prop
 |.done (some o,_)=>Good r a b o
 |.done (none,out,ia,ib,_)=>In r a b out ia ib/\n<=ia+ib
 |.yield (none,out,ia,ib,_)=>In r a b out ia ib/\n<=ia+ib
 |.yield (some _,_)=>False
theorem Rx{c:S6}{mg:Nat}(hc:Cmp prog w A s κ D r)(hk:kindOf st=κ)(o:Bc D r a b)(i:In r a b c.2.1 c.2.2.1 c.2.2.2.1) :
  wpS (model prog w) A E s (Vq a b mg c) (λc' st'=>st'=st/\P6 r a b (c.2.2.1+c.2.2.2.1+1) c') st:=by
 obtain⟨c0,out,ia,ib,ac,bc⟩:=c;have ha:ia+1<a.size:=i.ha;have hb:ib<b.size:=i.hb;obtain⟨y,ey,ey'⟩:=getL hb;obtain⟨x,ex,ex'⟩:=getL (l:=a) (i:=ia) (by lia)
 unfold Vq;dsimp only;refine Zaq (bF ey' (Zaq (bF ex' (Zaq (wj hc hk (o.db y (my ey)) (o.da x (my ex)) ?_)))));dsimp only;have nxy:=o.ne x (my ex) y (my ey);by_cases q:r y<r x
 ·rw[ZaB q,Zag rfl];have t1:=take1 ey;have m:Mg r a.toList b.toList (out.push y).toList ia (ib+1):=by
   have:=i.mg.bs o.sb 1 (by rw[t1.1];intro z hz x' hx';rw[ZaK.mp hz];exact Zap q (m5 o.sa ex x' hx'))
   rw[t1.1] at this;rw[ZbB];exact this
  refine Zaq (bF ey' ?_);by_cases q2:ib+1=b.size
  ·rw[Zag (by simpa using q2)]
   exact Zav ⟨rfl,rm o m (.inl q2)⟩
  ·rw[Zae (by simpa using q2)]
   have I:In r a b (out.push y) ia (ib+1):=⟨m,ha,by lia⟩
   split
   ·exact Zav ⟨rfl,I,ZbY (by lia)⟩
   ·exact Zav ⟨rfl,I,ZbY (by lia)⟩
 ·rw[ZaC q,Zae (by decide)]
  have t1:=take1 ex;have m:Mg r a.toList b.toList (out.push x).toList (ia+1) ib:=by
   have:=i.mg.as o.sa 1 (by rw[t1.1];intro z hz y' hy';rw[ZaK.mp hz];exact Zap (by lia) (m5 o.sb ey y' hy'))
   rw[t1.1] at this;rw[ZbB];exact this
  refine Zaq (bF ex' ?_);by_cases q2:ia+1+1=a.size
  ·rw[Zag (by simpa using q2)]
   exact Zav ⟨rfl,uO o m q2⟩
  ·rw[Zae (by simpa using q2)]
   have I:In r a b (out.push x) (ia+1) ib:=⟨m,by lia,hb⟩
   split
   ·exact Zav ⟨rfl,I,ZbY (by lia)⟩
   ·exact Zav ⟨rfl,I,ZbY (by lia)⟩
end
section
variable{prog:Program}{w:World}{A:Around}{E:Value->Shared->Prop}{s:Shared}{κ:SortKind}{D:Keyed->Prop}{r:Keyed->Nat}{st:SortSt}{a b:Array Keyed}
def P5(r:Keyed->Nat)(a b:Array Keyed)(n:Nat):ForInStep S5->Prop
 |.done (some o,_)=>Good r a b o
 |.done (none,_)=>False
 |.yield (none,out,ia,ib,_)=>In r a b out ia ib/\n<=ia+ib
 |.yield (some _,_)=>False
theorem Ry{c:S5}(hc:Cmp prog w A s κ D r)(hk:kindOf st=κ)(o:Bc D r a b)(i:In r a b c.2.1 c.2.2.1 c.2.2.2.1) :
  wpS (model prog w) A E s (Vr a b c) (λc' st'=>(∃ g,st'=bU st g)/\P5 r a b (c.2.2.1+c.2.2.2.1+1) c') st:=by
 obtain⟨c0,out,ia,ib,mg⟩:=c;have ha:ia+1<a.size:=i.ha;unfold Vr;dsimp only;refine Zaq (Za0 (Za9 (I:=λk d st'=>st'=st/\∃ o2 i2 j2 ac bc,d=((none,o2,i2,j2,ac,bc):S6)/\In r a b o2 i2 j2/\ia+ib+k<=i2+j2)
  (Q:=λd st'=>st'=st/\((∃ o2 x,d=((some o2,x):S6)/\Good r a b o2)\/∃ o2 i2 j2 ac bc,d=((none,o2,i2,j2,ac,bc):S6)/\In r a b o2 i2 j2/\ia+ib+1<=i2+j2)) ?_ ?_ ⟨rfl,out,ia,ib,0,0,rfl,i,Zai _⟩) ?_)
 ·rintro k d st' _ hk' ⟨rfl,o2,i2,j2,ac,bc,rfl,I,hn⟩;refine Za0 (Rx (c:=(none,o2,i2,j2,ac,bc)) hc hk o I) λe st' p=>?_;obtain⟨rfl,p⟩:=p
  match e,p with
  |.done (some o3,x),p=>exact⟨rfl,.inl ⟨o3,x,rfl,p⟩⟩
  |.done (none,o3,i3,j3,a3,b3),p=>exact⟨rfl,.inr ⟨o3,i3,j3,a3,b3,rfl,p.1,by have:i2+j2+1<=i3+j3:=p.2;lia⟩⟩
  |.yield (none,o3,i3,j3,a3,b3),p=>exact⟨rfl,o3,i3,j3,a3,b3,rfl,p.1,by have:i2+j2+1<=i3+j3:=p.2;lia⟩
  |.yield (some _,_),p=>exact p.elim
 ·rintro d st' ⟨rfl,o2,i2,j2,ac,bc,rfl,I,hn⟩;exact⟨rfl,.inr ⟨o2,i2,j2,ac,bc,rfl,I,by lia⟩⟩
 ·rintro d st' ⟨rfl,⟨o2,x,rfl,G⟩|⟨o2,i2,j2,ac,bc,rfl,I,hn⟩⟩
  ·exact Zav ⟨⟨gallopOf st',rfl⟩,G⟩
  ·dsimp only;refine Zaq (j7 ?_);refine Zaq (Za0 (Za9 (I:=λk e st2=>(∃ g,st2=bU st' g)/\∃ o2 i2 j2 mg ac bc,e=((none,o2,i2,j2,mg,ac,bc):S7)/\In r a b o2 i2 j2/\ia+ib+1<=i2+j2)
    (Q:=λe st2=>(∃ g,st2=bU st' g)/\((∃ o2 x,e=((some o2,x):S7)/\Good r a b o2)\/∃ o2 i2 j2 mg ac bc,e=((none,o2,i2,j2,mg,ac,bc):S7)/\In r a b o2 i2 j2/\ia+ib+1<=i2+j2)) ?_ ?_ ⟨⟨gallopOf st',rfl⟩,o2,i2,j2,_,ac,bc,rfl,I,hn⟩) ?_)
   ·rintro k e st2 _ _ ⟨⟨g,rfl⟩,o3,i3,j3,m3,a3,b3,rfl,I3,hn3⟩;refine Za0 (Rw (c:=(none,o3,i3,j3,m3,a3,b3)) hc (show kindOf (bU st' g)=κ from hk) o I3) λe st3 p=>?_;obtain⟨⟨g2,rfl⟩,p⟩:=p
    match e,p with
    |.done (some o4,x),p=>exact⟨⟨g2,rfl⟩,.inl ⟨o4,x,rfl,p⟩⟩
    |.done (none,o4,i4,j4,m4,a4,b4),p=>exact⟨⟨g2,rfl⟩,.inr ⟨o4,i4,j4,m4,a4,b4,rfl,p.1,by have:i3+j3+1<=i4+j4:=p.2;lia⟩⟩
    |.yield (none,o4,i4,j4,m4,a4,b4),p=>exact⟨⟨g2,rfl⟩,o4,i4,j4,m4,a4,b4,rfl,p.1,by have:i3+j3+1<=i4+j4:=p.2;lia⟩
    |.yield (some _,_),p=>exact p.elim
   ·rintro e st2 ⟨G,o3,i3,j3,m3,a3,b3,rfl,I3,hn3⟩;exact⟨G,.inr ⟨o3,i3,j3,m3,a3,b3,rfl,I3,hn3⟩⟩
   ·rintro e st2 ⟨⟨g,rfl⟩,⟨o3,x,rfl,G⟩|⟨o3,i3,j3,m3,a3,b3,rfl,I3,hn3⟩⟩
    ·exact Zav ⟨⟨g,rfl⟩,G⟩
    ·dsimp only;rw[eO];refine Zaq (wpS_modify ?_);exact Zav ⟨⟨_,rfl⟩,I3,hn3⟩
theorem DX(hc:Cmp prog w A s κ D r)(hk:kindOf st=κ)(a1:1<=a.size)(b1:1<=b.size)(o:Bc D r a b)(hf:∀ y,b.toList[0]?=some y->∀ x∈a.toList,r y<r x){Q:Array Keyed->SortSt->Prop}
  (h:∀ out g,Good r a b out->Q out (bU st g)):wpS (model prog w) A E s (v9 a b) Q st:=by
 rw[DW];unfold DR;refine Zaq (j7 ?_);obtain⟨y,ey,ey'⟩:=getL (l:=b) (i:=0) (by lia)
 refine Zaq (bF ey' ?_);have t1:=take1 ey;have m:Mg r a.toList b.toList (#[y]:Array Keyed).toList 0 1:=by
  have m0:Mg r a.toList b.toList [] 0 0:=⟨.nil,λ_ h=>(nomatch h),by simp⟩
  have:=m0.bs o.sb 1 (by rw[t1.1];intro z hz x hx;rw[ZaK.mp hz];exact hf y ey x (by simpa using hx))
  rw[t1.1] at this;exact this
 by_cases q:1=b.size
 ·rw[Zag (by simpa using q)]
  exact Zav (h _ (gallopOf st) (rm o m (.inl q)))
 ·rw[Zae (by simpa using q)]
  by_cases q2:0+1=a.size
  ·rw[Zag (by simpa using q2)]
   exact Zav (h _ (gallopOf st) (uO o m q2))
  ·rw[Zae (by simpa using q2)]
   refine Zaq (wpS_get ?_);refine Zaq (Za0 (Za9 (I:=λk c st'=>(∃ g,st'=bU st g)/\∃ out ia ib mg,c=((none,out,ia,ib,mg):S5)/\In r a b out ia ib/\k+1<=ia+ib)
    (Q:=λc st'=>(∃ g,st'=bU st g)/\∃ out x,c=((some out,x):S5)/\Good r a b out) ?_ ?_ ⟨⟨gallopOf st,rfl⟩,_,0,1,_,rfl,⟨m,by lia,by lia⟩,by lia⟩) ?_)
   ·rintro k c st' _ hk' ⟨⟨g,rfl⟩,out,ia,ib,mg,rfl,I,hn⟩;refine Za0 (Ry (c:=(none,out,ia,ib,mg)) hc (show kindOf (bU st g)=κ from hk) o I) λe st3 p=>?_;obtain⟨⟨g2,rfl⟩,p⟩:=p
    match e,p with
    |.done (some o4,x),p=>exact⟨⟨g2,rfl⟩,o4,x,rfl,p⟩
    |.done (none,_),p=>exact p.elim
    |.yield (none,o4,i4,j4,m4),p=>exact⟨⟨g2,rfl⟩,o4,i4,j4,m4,rfl,p.1,by have:ia+ib+1<=i4+j4:=p.2;lia⟩
    |.yield (some _,_),p=>exact p.elim
   ·rintro c st' ⟨_,out,ia,ib,mg,rfl,I,hn⟩;have:=I.ha;have:=I.hb;lia
   ·rintro c st' ⟨⟨g,rfl⟩,out,x,rfl,G⟩;exact Zav (h out g G)
end
noncomputable abbrev T7:=Option (Array Keyed)×Nat×Nat×Array Keyed×Nat×Nat×Nat
noncomputable abbrev T6:=Option (Array Keyed)×Nat×Nat×Array Keyed×Nat×Nat
noncomputable abbrev T5:=Option (Array Keyed)×Nat×Nat×Array Keyed×Nat
noncomputable abbrev dnH(a b out:Array Keyed)(na nb:Nat):Array Keyed:=a.extract 0 na++b.extract 0 nb++out.reverse
noncomputable abbrev fbH(a b out:Array Keyed)(na nb:Nat):Array Keyed:=b.extract 0 nb++a.extract 0 na++out.reverse
def Oa(a b out:Array Keyed)(na nb mg ac bc:Nat):StateT SortSt Sem (ForInStep T7):=do
 let x <-elem' a (na-1)
 if na-1==0 then return .done (some (dnH a b (out.push x) (na-1) nb),na-1,nb,out.push x,mg,ac,bc)
 if ac<7&&bc<7 then return .done (none,na-1,nb,out.push x,mg,ac,bc)
 return .yield (none,na-1,nb,out.push x,mg,ac,bc)
def Ob(a b out:Array Keyed)(na nb mg ac bc:Nat):StateT SortSt Sem (ForInStep T7):=do
 let y <-elem' b (nb-1)
 if nb-1==1 then return .done (some (fbH a b (out.push y) na (nb-1)),na,nb-1,out.push y,mg,ac,bc)
 let some at_ <-iQ true (<-elem' a (na-1)) b 0 (nb-1) (nb-1-1)|return .done (some (dnH a b (out.push y) na (nb-1)),na,nb-1,out.push y,mg,ac,bc)
 if nb-1-at_>0 then
  if at_==1 then return .done (some (fbH a b (out.push y++(b.extract at_ (nb-1)).reverse) na at_),na,at_,out.push y++(b.extract at_ (nb-1)).reverse,mg,ac,nb-1-at_)
  if at_==0 then return .done (some (dnH a b (out.push y++(b.extract at_ (nb-1)).reverse) na at_),na,at_,out.push y++(b.extract at_ (nb-1)).reverse,mg,ac,nb-1-at_)
  Oa a b (out.push y++(b.extract at_ (nb-1)).reverse) na at_ mg ac (nb-1-at_)
 else Oa a b (out.push y) na (nb-1) mg ac (nb-1-at_)
def Rz(a b out:Array Keyed)(na nb mg ac bc:Nat):StateT SortSt Sem (ForInStep T7):=do
 eZ mg
 let some at_ <-iQ false (<-elem' b (nb-1)) a 0 na (na-1)|return .done (some (dnH a b out na nb),na,nb,out,mg,ac,bc)
 if na-at_>0 then
  if at_==0 then return .done (some (dnH a b (out++(a.extract at_ na).reverse) at_ nb),at_,nb,out++(a.extract at_ na).reverse,mg,na-at_,bc)
  Ob a b (out++(a.extract at_ na).reverse) at_ nb mg (na-at_) bc
 else Ob a b out na nb mg (na-at_) bc
def Vs(a b:Array Keyed)(c:T7):StateT SortSt Sem (ForInStep T7):=
 if c.2.2.2.2.1>1 then Rz a b c.2.2.2.1 c.2.1 c.2.2.1 (c.2.2.2.2.1-1) c.2.2.2.2.2.1 c.2.2.2.2.2.2 else Rz a b c.2.2.2.1 c.2.1 c.2.2.1 c.2.2.2.2.1 c.2.2.2.2.2.1 c.2.2.2.2.2.2
def Vt(a b:Array Keyed)(mg:Nat)(c:T6):StateT SortSt Sem (ForInStep T6):=do
 let some aWins <-lt' (<-elem' b (c.2.2.1-1)) (<-elem' a (c.2.1-1))|return .done (some (dnH a b c.2.2.2.1 c.2.1 c.2.2.1),c.2.1,c.2.2.1,c.2.2.2.1,c.2.2.2.2.1,c.2.2.2.2.2)
 if aWins then
  let x <-elem' a (c.2.1-1)
  if c.2.1-1==0 then return .done (some (dnH a b (c.2.2.2.1.push x) (c.2.1-1) c.2.2.1),c.2.1-1,c.2.2.1,c.2.2.2.1.push x,c.2.2.2.2.1+1,0)
  if c.2.2.2.2.1+1>=mg then return .done (none,c.2.1-1,c.2.2.1,c.2.2.2.1.push x,c.2.2.2.2.1+1,0)
  return .yield (none,c.2.1-1,c.2.2.1,c.2.2.2.1.push x,c.2.2.2.2.1+1,0)
 else
  let y <-elem' b (c.2.2.1-1)
  if c.2.2.1-1==1 then return .done (some (fbH a b (c.2.2.2.1.push y) c.2.1 (c.2.2.1-1)),c.2.1,c.2.2.1-1,c.2.2.2.1.push y,0,c.2.2.2.2.2+1)
  if c.2.2.2.2.2+1>=mg then return .done (none,c.2.1,c.2.2.1-1,c.2.2.2.1.push y,0,c.2.2.2.2.2+1)
  return .yield (none,c.2.1,c.2.2.1-1,c.2.2.2.1.push y,0,c.2.2.2.2.2+1)
def Vu(a b:Array Keyed)(c:T5):StateT SortSt Sem (ForInStep T5):=do
 let d <-forIn [0:a.size+b.size] ((none,c.2.1,c.2.2.1,c.2.2.2.1,0,0):T6) λ_ d=>Vt a b c.2.2.2.2 d
 match d.1 with
 |some r=>pure (.done (some r,d.2.1,d.2.2.1,d.2.2.2.1,c.2.2.2.2))
 |none=>do
  rule "list.sort.gallop"
  let e <-forIn [0:a.size+b.size] ((none,d.2.1,d.2.2.1,d.2.2.2.1,c.2.2.2.2+1,d.2.2.2.2.1,d.2.2.2.2.2):T7) λ_ e=>Vs a b e
  match e.1 with
  |some r=>pure (.done (some r,e.2.1,e.2.2.1,e.2.2.2.1,e.2.2.2.2.1))
  |none=>do
   eZ (e.2.2.2.2.1+1)
   pure (.yield (none,e.2.1,e.2.2.1,e.2.2.2.1,e.2.2.2.2.1+1))
def DY(a b:Array Keyed):StateT SortSt Sem (Array Keyed):=do
 rule "list.sort.merge-hi"
 let x <-elem' a (a.size-1)
 if a.size-1==0 then return dnH a b #[x] (a.size-1) b.size
 if b.size==1 then return fbH a b #[x] (a.size-1) b.size
 let s <-get
 let c <-forIn [0:a.size+b.size] ((none,a.size-1,b.size,#[x],gallopOf s):T5) λ_ c=>Vu a b c
 match c.1 with
 |some r=>pure r
 |none=>unsupported "internal:list.sort.merge-bound"
theorem Ea(a b:Array Keyed):wg a b=DY a b:=by
 kernel_rfl
section
variable{r:Keyed->Nat}{la lb out:List Keyed}{na nb:Nat}
structure Mh(r:Keyed->Nat)(la lb out:List Keyed)(na nb:Nat):Prop where
 so:Srt r out.reverse
 lt:∀ o∈out,∀ z∈la.take na++lb.take nb,r z<r o
 pm:out.Perm (la.drop na++lb.drop nb)
theorem lD(l:List Keyed){i j:Nat}(h:i<=j):l.drop i=(l.take j).drop i++l.drop j:=by
 conv=>lhs;rw[<-ZaI j l]
 by_cases q:j<=l.length
 ·rw[List.drop_append_of_le_length (by simp;lia)]
 ·rw[show l.drop j=[] from Zbj (by lia),ZaJ,ZaJ]
theorem Mh.as(h:Mh r la lb out na nb)(sa:Srt r la){i:Nat}(hi:i<=na)(hk:∀ x∈(la.take na).drop i,∀ y∈lb.take nb,r y<r x):Mh r la lb (out++((la.take na).drop i).reverse) i nb:=by
 have st:Srt r (la.take na):=Zao (ZaP _ _) sa;have e:la.take i=(la.take na).take i:=by rw[Zbz,Zbk hi]
 have sp:Srt r ((la.take na).take i++(la.take na).drop i):=by rw[ZaI];exact st
 refine⟨?_,λo ho z hz=>?_,?_⟩
 ·rw[List.reverse_append,List.reverse_reverse];exact Zat.mpr ⟨Zao (ZaV _ _) st,h.so,λx hx o ho=>h.lt o (ZbR.mp ho) x (Zah.mpr (.inl (ZaU hx)))⟩
 ·rw[e] at hz;rcases Zah.mp ho with q|q
  ·refine h.lt o q z ?_;rcases Zah.mp hz with w|w
   ·exact Zah.mpr (.inl (ZaO w))
   ·exact Zah.mpr (.inr w)
  ·have q:=ZbR.mp q;rcases Zah.mp hz with w|w
   ·exact(Zat.mp sp).2.2 z w o q
   ·exact hk o q z w
 ·rw[lD la hi,Zax];refine(List.Perm.append h.pm (List.reverse_perm _)).trans ?_;exact List.perm_append_comm
theorem Mh.bs(h:Mh r la lb out na nb)(sb:Srt r lb){i:Nat}(hi:i<=nb)(hk:∀ y∈(lb.take nb).drop i,∀ x∈la.take na,r x<r y):Mh r la lb (out++((lb.take nb).drop i).reverse) na i:=by
 have st:Srt r (lb.take nb):=Zao (ZaP _ _) sb;have e:lb.take i=(lb.take nb).take i:=by rw[Zbz,Zbk hi]
 have sp:Srt r ((lb.take nb).take i++(lb.take nb).drop i):=by rw[ZaI];exact st
 refine⟨?_,λo ho z hz=>?_,?_⟩
 ·rw[List.reverse_append,List.reverse_reverse];exact Zat.mpr ⟨Zao (ZaV _ _) st,h.so,λx hx o ho=>h.lt o (ZbR.mp ho) x (Zah.mpr (.inr (ZaU hx)))⟩
 ·rw[e] at hz;rcases Zah.mp ho with q|q
  ·refine h.lt o q z ?_;rcases Zah.mp hz with w|w
   ·exact Zah.mpr (.inl w)
   ·exact Zah.mpr (.inr (ZaO w))
  ·have q:=ZbR.mp q;rcases Zah.mp hz with w|w
   ·exact hk o q z w
   ·exact(Zat.mp sp).2.2 z w o q
 ·rw[lD lb hi];refine(List.Perm.append h.pm (List.reverse_perm _)).trans ?_;rw[Zax];refine Za2 _ ?_;exact List.perm_append_comm
theorem Oc(la lb:List Keyed)(na nb:Nat):(la.take na++lb.take nb++(la.drop na++lb.drop nb)).Perm (la++lb):=by
 conv=>rhs;rw[<-ZaI na la,<-ZaI nb lb]
 simp only[Zax];refine Za2 _ ?_;rw[<-Zax,<-Zax];exact ZbV _ List.perm_append_comm
theorem Mh.end(h:Mh r la lb out na nb)(sa:Srt r la)(sb:Srt r lb)(hk:∀ x∈la.take na,∀ y∈lb.take nb,r x<r y):Srt r (la.take na++lb.take nb++out.reverse)/\(la.take na++lb.take nb++out.reverse).Perm (la++lb):=by
 refine⟨Zat.mpr ⟨Zat.mpr ⟨Zao (ZaP _ _) sa,Zao (ZaP _ _) sb,hk⟩,h.so,λz hz o ho=>h.lt o (ZbR.mp ho) z hz⟩,?_⟩;exact(Za2 _ ((List.reverse_perm _).trans h.pm)).trans (Oc la lb na nb)
theorem Mh.Vo(h:Mh r la lb out na nb)(sa:Srt r la)(sb:Srt r lb)(hk:∀ x∈la.take na,∀ y∈lb.take nb,r y<r x):Srt r (lb.take nb++la.take na++out.reverse)/\(lb.take nb++la.take na++out.reverse).Perm (la++lb):=by
 refine⟨Zat.mpr ⟨Zat.mpr ⟨Zao (ZaP _ _) sb,Zao (ZaP _ _) sa,λy hy x hx=>hk x hx y hy⟩,h.so,λz hz o ho=>h.lt o (ZbR.mp ho) z (by
  rcases Zah.mp hz with q|q
  ·exact Zah.mpr (.inr q)
  ·exact Zah.mpr (.inl q))⟩,?_⟩
 refine(List.Perm.append List.perm_append_comm ((List.reverse_perm _).trans h.pm)).trans (Oc la lb na nb)
end
section
variable{prog:Program}{w:World}{A:Around}{E:Value->Shared->Prop}{s:Shared}{κ:SortKind}{D:Keyed->Prop}{r:Keyed->Nat}{st:SortSt}{a b:Array Keyed}
structure Bd(D:Keyed->Prop)(r:Keyed->Nat)(a b:Array Keyed):Prop where
 da:∀ x∈a.toList,D x
 db:∀ x∈b.toList,D x
 sa:Srt r a.toList
 sb:Srt r b.toList
 ne:∀ x∈a.toList,∀ y∈b.toList,r x≠r y
 fb:∀ y,b.toList[0]?=some y->∀ x∈a.toList,r y<r x
theorem rA(a:Array Keyed)(j:Nat)(h:j<=a.size):(a.extract 0 j).toList=a.toList.take j:=by
 rw[ext_toList a 0 j (Zbb _) h,Zbo,Nat.sub_zero]
theorem Jb(a:Array Keyed)(i j:Nat)(h:i<=j)(hj:j<=a.size):(a.extract i j).reverse.toList=((a.toList.take j).drop i).reverse:=by
 rw[Array.toList_reverse,ext_toList a i j h hj,List.drop_take]
theorem Eb{out:Array Keyed}{na nb:Nat}(o:Bd D r a b)(m:Mh r a.toList b.toList out.toList na nb)(ha:na<=a.size)(hb:nb<=b.size)(h:na=0\/nb=0):Good r a b (dnH a b out na nb):=by
 have e:=m.end o.sa o.sb (λx hx y hy=>by
  rcases h with q|q
  ·rw[q] at hx;cases hx
  ·rw[q] at hy;cases hy)
 unfold Good dnH;rw[ZaS,ZaS,rA a na ha,rA b nb hb,Array.toList_reverse];exact e
theorem Jc{out:Array Keyed}{na nb:Nat}(o:Bd D r a b)(m:Mh r a.toList b.toList out.toList na nb)(ha:na<=a.size)(hb:nb<=b.size)(h:nb=1):Good r a b (fbH a b out na nb):=by
 have e:=m.Vo o.sa o.sb (λx hx y hy=>by
  rw[h] at hy;obtain⟨y0,e0⟩:∃ y0,b.toList[0]?=some y0:=⟨_,List.getElem?_eq_getElem (by simp;lia)⟩
  have:b.toList.take 1=[y0]:=by
   have:=(take1 e0).1
   rwa [Zbo] at this
  rw[this,ZaK] at hy;rw[hy];exact o.fb y0 e0 x (ZaO hx))
 unfold Good fbH;rw[ZaS,ZaS,rA a na ha,rA b nb hb,Array.toList_reverse];exact e
structure Ih(r:Keyed->Nat)(a b out:Array Keyed)(na nb:Nat):Prop where
 mh:Mh r a.toList b.toList out.toList na nb
 a0:1<=na
 a1:na<=a.size
 b0:2<=nb
 b1:nb<=b.size
def H7(r:Keyed->Nat)(a b:Array Keyed)(n:Nat):ForInStep T7->Prop
 |.done (some o,_)=>Good r a b o
 |.done (none,na,nb,out,_)=>Ih r a b out na nb/\na+nb<=n
 |.yield (none,na,nb,out,_)=>Ih r a b out na nb/\na+nb<=n
 |.yield (some _,_)=>False
theorem H7.mono{n m:Nat}(h:n<=m):∀ {c:ForInStep T7},H7 r a b n c->H7 r a b m c
 |.done (some _,_),p=>p
 |.done (none,_,_,_,_),p=>⟨p.1,ZaF p.2 h⟩
 |.yield (none,_,_,_,_),p=>⟨p.1,ZaF p.2 h⟩
 |.yield (some _,_),p=>p
theorem Jd{l:List Keyed}{n:Nat}{x:Keyed}(h0:1<=n)(h:l[n-1]?=some x):(l.take n).drop (n-1)=[x]:=by
 have hi:=(Zac.mp h).1;have e:l.take n=l.take (n-1)++[x]:=by
  conv=>lhs;rw[show n=n-1+1 by lia]
  rw[List.take_succ,h];rfl
 rw[e,List.drop_left' (by simp;lia)]
theorem m6{l:List Keyed}{n:Nat}{x:Keyed}(sl:Srt r l)(h0:1<=n)(h:l[n-1]?=some x):∀ z∈l.take n,r z<=r x:=λz hz=>by
 have e:l.take n=l.take (n-1)++[x]:=by
  conv=>lhs;rw[show n=n-1+1 by omega]
  rw[List.take_succ,h];rfl
 have:=Zao (ZaP n l) sl;rw[e] at hz this;rcases Zah.mp hz with q|q
 ·exact ZaM ((Zat.mp this).2.2 z q x (by simp))
 ·rw[ZaK.mp q];exact Zai _
theorem Mh.a1{out:Array Keyed}{na nb:Nat}{x:Keyed}(m:Mh r a.toList b.toList out.toList na nb)(sa:Srt r a.toList)(h0:1<=na)(ex:a.toList[na-1]?=some x)(hx:∀ y∈b.toList.take nb,r y<r x):Mh r a.toList b.toList (out.push x).toList (na-1) nb:=by
 have:=m.as sa (i:=na-1) (by omega) (by rw[Jd h0 ex];intro z hz;rw[ZaK.mp hz];exact hx)
 rw[Jd h0 ex] at this;rw[ZbB];exact this
theorem Mh.b1{out:Array Keyed}{na nb:Nat}{y:Keyed}(m:Mh r a.toList b.toList out.toList na nb)(sb:Srt r b.toList)(h0:1<=nb)(ey:b.toList[nb-1]?=some y)(hy:∀ x∈a.toList.take na,r x<r y):Mh r a.toList b.toList (out.push y).toList na (nb-1):=by
 have:=m.bs sb (i:=nb-1) (by omega) (by rw[Jd h0 ey];intro z hz;rw[ZaK.mp hz];exact hy)
 rw[Jd h0 ey] at this;rw[ZbB];exact this
theorem RC{M:Model}{out:Array Keyed}{na nb mg ac bc:Nat}(o:Bd D r a b)(i:Ih r a b out na nb)(hx:∀ x,a.toList[na-1]?=some x->∀ y∈b.toList.take nb,r y<r x) :
  wpS M A E s (Oa a b out na nb mg ac bc) (λc st'=>st'=st/\H7 r a b (na+nb-1) c) st:=by
 obtain⟨mh,a0,a1,b0,b1⟩:=i;obtain⟨x,ex,ex'⟩:=getL (l:=a) (i:=na-1) (by lia)
 have m:=mh.a1 o.sa a0 ex (hx x ex);unfold Oa;refine Zaq (bF ex' ?_);by_cases q:na-1=0
 ·rw[Zag (by simpa using q)]
  exact Zav ⟨rfl,Eb o m (by lia) b1 (.inl q)⟩
 ·rw[Zae (by simpa using q)]
  have I:Ih r a b (out.push x) (na-1) nb:=⟨m,by lia,by lia,b0,b1⟩
  split
  ·exact Zav ⟨rfl,I,by lia⟩
  ·exact Zav ⟨rfl,I,by lia⟩
theorem RG{out:Array Keyed}{na nb mg ac bc:Nat}(hc:Cmp prog w A s κ D r)(hk:kindOf st=κ)(o:Bd D r a b)(i:Ih r a b out na nb)(hy:∀ y,b.toList[nb-1]?=some y->∀ x∈a.toList.take na,r x<r y) :
  wpS (model prog w) A E s (Ob a b out na nb mg ac bc) (λc st'=>st'=st/\H7 r a b (na+nb-1) c) st:=by
 obtain⟨mh,a0,a1,b0,b1⟩:=i;obtain⟨y,ey,ey'⟩:=getL (l:=b) (i:=nb-1) (by omega)
 have m:=mh.b1 o.sb (by omega) ey (hy y ey)
 unfold Ob;refine Zaq (bF ey' ?_);by_cases q:nb-1=1
 ·rw[Zag (by simpa using q)]
  exact Zav ⟨rfl,Jc o m a1 (by omega) q⟩
 ·rw[Zae (by simpa using q)]
  obtain⟨x,ex,ex'⟩:=getL (l:=a) (i:=na-1) (by omega)
  refine Zaq (bF ex' ?_);refine Zaq (gD (L:=b.toList.take (nb-1)) hc hk (by omega) (by omega) (by rw[Zbo]) (o.da x (my ex)) (λz hz=>⟨o.db z (ZaO hz),λe=>o.ne x (my ex) z (ZaO hz) e.symm⟩) (Zao (ZaP _ _) o.sb) λk hk' g1 g2=>?_)
  dsimp only;rw[Zbz,Zbk hk'] at g1;have fin:∀ {o2:Array Keyed}{j:Nat},Mh r a.toList b.toList o2.toList na j->j=k->2<=j->∀ bc,wpS (model prog w) A E s (Oa a b o2 na j mg ac bc) (λc st'=>st'=st/\H7 r a b (na+nb-1) c) st:=λ{o2 j} m2 e ne bc=>by
   refine Za0 (RC o ⟨m2,a0,a1,ne,by omega⟩ λx' ex2 z hz=>?_) λc st' p=>⟨p.1,H7.mono (by omega) p.2⟩
   rw[ex] at ex2;cases ex2;rw[e] at hz;exact g1 z hz
  by_cases q2:nb-1-k>0
  ·rw[Zag q2];have m2:Mh r a.toList b.toList (out.push y++(b.extract k (nb-1)).reverse).toList na k:=by
    have:=m.bs o.sb (i:=k) (by omega) λz hz x' hx'=>Nat.lt_of_le_of_lt (m6 o.sa a0 ex x' hx') (g2 z hz)
    rw[ZaS,Jb b k (nb-1) (by omega) (by omega)]
    exact this
   by_cases q3:k=1
   ·rw[Zag (by simpa using q3)]
    exact Zav ⟨rfl,Jc o m2 a1 (by omega) q3⟩
   ·rw[Zae (by simpa using q3)]
    by_cases q4:k=0
    ·rw[Zag (by simpa using q4)]
     exact Zav ⟨rfl,Eb o m2 a1 (by omega) (.inr q4)⟩
    ·rw[Zae (by simpa using q4)]
     exact fin m2 rfl (by omega) _
  ·rw[Zae q2];exact fin m (by omega) (by omega) _
theorem Je{out:Array Keyed}{na nb mg ac bc:Nat}(hc:Cmp prog w A s κ D r)(hk:kindOf st=κ)(o:Bd D r a b)(i:Ih r a b out na nb) :
  wpS (model prog w) A E s (Rz a b out na nb mg ac bc) (λc st'=>st'=bU st mg/\H7 r a b (na+nb-1) c) st:=by
 obtain⟨mh,a0,a1,b0,b1⟩:=i;obtain⟨y,ey,ey'⟩:=getL (l:=b) (i:=nb-1) (by lia)
 unfold Rz;rw[eO];refine Zaq (wpS_modify ?_);refine Zaq (bF ey' ?_);refine Zaq (gD (L:=a.toList.take na) hc (show kindOf (bU st mg)=κ from hk) (by lia) (by lia) (by rw[Zbo]) (o.db y (my ey)) (λz hz=>⟨o.da z (ZaO hz),λe=>o.ne z (ZaO hz) y (my ey) e⟩) (Zao (ZaP _ _) o.sa) λk hk' g1 g2=>?_)
 dsimp only;rw[Zbz,Zbk hk'] at g1;have fin:∀ {o2:Array Keyed}{j:Nat},Mh r a.toList b.toList o2.toList j nb->j=k->1<=j->∀ ac,wpS (model prog w) A E s (Ob a b o2 j nb mg ac bc) (λc st'=>st'=bU st mg/\H7 r a b (na+nb-1) c) (bU st mg):=λ{o2 j} m2 e ne ac=>by
  refine Za0 (RG hc (show kindOf (bU st mg)=κ from hk) o ⟨m2,ne,by lia,b0,b1⟩ λy' ey2 z hz=>?_) λc st' p=>⟨p.1,H7.mono (by lia) p.2⟩
  rw[ey] at ey2;cases ey2;rw[e] at hz;exact g1 z hz
 by_cases q2:na-k>0
 ·rw[Zag q2];have m2:Mh r a.toList b.toList (out++(a.extract k na).reverse).toList k nb:=by
   have:=mh.as o.sa (i:=k) (by lia) λx hx z hz=>Nat.lt_of_le_of_lt (m6 o.sb (by lia) ey z hz) (g2 x hx)
   rw[ZaS,Jb a k na (by lia) a1]
   exact this
  by_cases q3:k=0
  ·rw[Zag (by simpa using q3)]
   exact Zav ⟨rfl,Eb o m2 (by lia) b1 (.inl q3)⟩
  ·rw[Zae (by simpa using q3)]
   exact fin m2 rfl (by lia) _
 ·rw[Zae q2];exact fin mh (by lia) a0 _
theorem RJ{c:T7}(hc:Cmp prog w A s κ D r)(hk:kindOf st=κ)(o:Bd D r a b)(i:Ih r a b c.2.2.2.1 c.2.1 c.2.2.1) :
  wpS (model prog w) A E s (Vs a b c) (λc' st'=>(∃ g,st'=bU st g)/\H7 r a b (c.2.1+c.2.2.1-1) c') st:=by
 unfold Vs;split
 ·exact Za0 (Je hc hk o i) λc' st' p=>⟨⟨_,p.1⟩,p.2⟩
 ·exact Za0 (Je hc hk o i) λc' st' p=>⟨⟨_,p.1⟩,p.2⟩
def H6(r:Keyed->Nat)(a b:Array Keyed)(n:Nat):ForInStep T6->Prop
 |.done (some o,_)=>Good r a b o
 |.done (none,na,nb,out,_)=>Ih r a b out na nb/\na+nb<=n
 |.yield (none,na,nb,out,_)=>Ih r a b out na nb/\na+nb<=n
 |.yield (some _,_)=>False
theorem RK{c:T6}{mg:Nat}(hc:Cmp prog w A s κ D r)(hk:kindOf st=κ)(o:Bd D r a b)(i:Ih r a b c.2.2.2.1 c.2.1 c.2.2.1) :
  wpS (model prog w) A E s (Vt a b mg c) (λc' st'=>st'=st/\H6 r a b (c.2.1+c.2.2.1-1) c') st:=by
 obtain⟨c0,na,nb,out,ac,bc⟩:=c;obtain⟨mh,a0,a1,b0,b1⟩:=i;have a0:1<=na:=a0;have b0:2<=nb:=b0;have a1:na<=a.size:=a1;have b1:nb<=b.size:=b1;obtain⟨y,ey,ey'⟩:=getL (l:=b) (i:=nb-1) (by lia)
 obtain⟨x,ex,ex'⟩:=getL (l:=a) (i:=na-1) (by lia)
 unfold Vt;dsimp only;refine Zaq (bF ey' (Zaq (bF ex' (Zaq (wj hc hk (o.db y (my ey)) (o.da x (my ex)) ?_)))));dsimp only;have nxy:=o.ne x (my ex) y (my ey);by_cases q:r y<r x
 ·rw[ZaB q,Zag rfl];have m:=mh.a1 o.sa a0 ex λz hz=>Nat.lt_of_le_of_lt (m6 o.sb (by lia) ey z hz) q
  refine Zaq (bF ex' ?_);by_cases q2:na-1=0
  ·rw[Zag (by simpa using q2)]
   exact Zav ⟨rfl,Eb o m (by lia) b1 (.inl q2)⟩
  ·rw[Zae (by simpa using q2)]
   have I:Ih r a b (out.push x) (na-1) nb:=⟨m,by lia,by lia,b0,b1⟩
   split
   ·exact Zav ⟨rfl,I,by show na-1+nb<=na+nb-1;lia⟩
   ·exact Zav ⟨rfl,I,by show na-1+nb<=na+nb-1;lia⟩
 ·rw[ZaC q,Zae (by decide)]
  have m:=mh.b1 o.sb (by lia) ey λz hz=>Nat.lt_of_le_of_lt (m6 o.sa a0 ex z hz) (by lia)
  refine Zaq (bF ey' ?_);by_cases q2:nb-1=1
  ·rw[Zag (by simpa using q2)]
   exact Zav ⟨rfl,Jc o m a1 (by lia) q2⟩
  ·rw[Zae (by simpa using q2)]
   have I:Ih r a b (out.push y) na (nb-1):=⟨m,a0,a1,by lia,by lia⟩
   split
   ·exact Zav ⟨rfl,I,by show na+(nb-1)<=na+nb-1;lia⟩
   ·exact Zav ⟨rfl,I,by show na+(nb-1)<=na+nb-1;lia⟩
def H5(r:Keyed->Nat)(a b:Array Keyed)(n:Nat):ForInStep T5->Prop
 |.done (some o,_)=>Good r a b o
 |.done (none,_)=>False
 |.yield (none,na,nb,out,_)=>Ih r a b out na nb/\na+nb<=n
 |.yield (some _,_)=>False
theorem RL{c:T5}(hc:Cmp prog w A s κ D r)(hk:kindOf st=κ)(o:Bd D r a b)(i:Ih r a b c.2.2.2.1 c.2.1 c.2.2.1) :
  wpS (model prog w) A E s (Vu a b c) (λc' st'=>(∃ g,st'=bU st g)/\H5 r a b (c.2.1+c.2.2.1-1) c') st:=by
 obtain⟨c0,na,nb,out,mg⟩:=c;have a0:1<=na:=i.a0;have a1:na<=a.size:=i.a1;unfold Vu;dsimp only;refine Zaq (Za0 (Za9 (I:=λk d st'=>st'=st/\∃ o2 i2 j2 ac bc,d=((none,i2,j2,o2,ac,bc):T6)/\Ih r a b o2 i2 j2/\i2+j2+k<=na+nb)
  (Q:=λd st'=>st'=st/\((∃ o2 x,d=((some o2,x):T6)/\Good r a b o2)\/∃ o2 i2 j2 ac bc,d=((none,i2,j2,o2,ac,bc):T6)/\Ih r a b o2 i2 j2/\i2+j2<=na+nb-1)) ?_ ?_ ⟨rfl,out,na,nb,0,0,rfl,i,Zai _⟩) ?_)
 ·rintro k d st' _ hk' ⟨rfl,o2,i2,j2,ac,bc,rfl,I,hn⟩;have:=I.a0;refine Za0 (RK (c:=(none,i2,j2,o2,ac,bc)) hc hk o I) λe st' p=>?_;obtain⟨rfl,p⟩:=p
  match e,p with
  |.done (some o3,x),p=>exact⟨rfl,.inl ⟨o3,x,rfl,p⟩⟩
  |.done (none,i3,j3,o3,a3,b3),p=>exact⟨rfl,.inr ⟨o3,i3,j3,a3,b3,rfl,p.1,by have:i3+j3<=i2+j2-1:=p.2;lia⟩⟩
  |.yield (none,i3,j3,o3,a3,b3),p=>exact⟨rfl,o3,i3,j3,a3,b3,rfl,p.1,by have:i3+j3<=i2+j2-1:=p.2;lia⟩
  |.yield (some _,_),p=>exact p.elim
 ·rintro d st' ⟨rfl,o2,i2,j2,ac,bc,rfl,I,hn⟩;exact⟨rfl,.inr ⟨o2,i2,j2,ac,bc,rfl,I,by lia⟩⟩
 ·rintro d st' ⟨rfl,⟨o2,x,rfl,G⟩|⟨o2,i2,j2,ac,bc,rfl,I,hn⟩⟩
  ·exact Zav ⟨⟨gallopOf st',rfl⟩,G⟩
  ·dsimp only;refine Zaq (j7 ?_);refine Zaq (Za0 (Za9 (I:=λk e st2=>(∃ g,st2=bU st' g)/\∃ o2 i2 j2 mg ac bc,e=((none,i2,j2,o2,mg,ac,bc):T7)/\Ih r a b o2 i2 j2/\i2+j2<=na+nb-1)
    (Q:=λe st2=>(∃ g,st2=bU st' g)/\((∃ o2 x,e=((some o2,x):T7)/\Good r a b o2)\/∃ o2 i2 j2 mg ac bc,e=((none,i2,j2,o2,mg,ac,bc):T7)/\Ih r a b o2 i2 j2/\i2+j2<=na+nb-1)) ?_ ?_ ⟨⟨gallopOf st',rfl⟩,o2,i2,j2,_,ac,bc,rfl,I,hn⟩) ?_)
   ·rintro k e st2 _ _ ⟨⟨g,rfl⟩,o3,i3,j3,m3,a3,b3,rfl,I3,hn3⟩;refine Za0 (RJ (c:=(none,i3,j3,o3,m3,a3,b3)) hc (show kindOf (bU st' g)=κ from hk) o I3) λe st3 p=>?_;obtain⟨⟨g2,rfl⟩,p⟩:=p
    match e,p with
    |.done (some o4,x),p=>exact⟨⟨g2,rfl⟩,.inl ⟨o4,x,rfl,p⟩⟩
    |.done (none,i4,j4,o4,m4,a4,b4),p=>exact⟨⟨g2,rfl⟩,.inr ⟨o4,i4,j4,m4,a4,b4,rfl,p.1,by have:i4+j4<=i3+j3-1:=p.2;lia⟩⟩
    |.yield (none,i4,j4,o4,m4,a4,b4),p=>exact⟨⟨g2,rfl⟩,o4,i4,j4,m4,a4,b4,rfl,p.1,by have:i4+j4<=i3+j3-1:=p.2;lia⟩
    |.yield (some _,_),p=>exact p.elim
   ·rintro e st2 ⟨G,o3,i3,j3,m3,a3,b3,rfl,I3,hn3⟩;exact⟨G,.inr ⟨o3,i3,j3,m3,a3,b3,rfl,I3,hn3⟩⟩
   ·rintro e st2 ⟨⟨g,rfl⟩,⟨o3,x,rfl,G⟩|⟨o3,i3,j3,m3,a3,b3,rfl,I3,hn3⟩⟩
    ·exact Zav ⟨⟨g,rfl⟩,G⟩
    ·dsimp only;rw[eO];refine Zaq (wpS_modify ?_);exact Zav ⟨⟨_,rfl⟩,I3,hn3⟩
theorem Ec(hc:Cmp prog w A s κ D r)(hk:kindOf st=κ)(a1:1<=a.size)(b1:1<=b.size)(o:Bd D r a b)(hf:∀ x,a.toList[a.size-1]?=some x->∀ y∈b.toList,r y<r x){Q:Array Keyed->SortSt->Prop}
  (h:∀ out g,Good r a b out->Q out (bU st g)):wpS (model prog w) A E s (wg a b) Q st:=by
 rw[Ea];unfold DY;refine Zaq (j7 ?_);obtain⟨x,ex,ex'⟩:=getL (l:=a) (i:=a.size-1) (by lia)
 refine Zaq (bF ex' ?_);have m:Mh r a.toList b.toList (#[x]:Array Keyed).toList (a.size-1) b.size:=by
  have m0:Mh r a.toList b.toList (#[]:Array Keyed).toList a.size b.size:=⟨.nil,λ_ h=>(nomatch h),by simp⟩
  exact m0.a1 o.sa a1 ex λy hy=>hf x ex y (ZaO hy)
 by_cases q:a.size-1=0
 ·rw[Zag (by simpa using q)]
  exact Zav (h _ (gallopOf st) (Eb o m (by lia) (Zai _) (.inl q)))
 ·rw[Zae (by simpa using q)]
  by_cases q2:b.size=1
  ·rw[Zag (by simpa using q2)]
   exact Zav (h _ (gallopOf st) (Jc o m (by lia) (Zai _) q2))
  ·rw[Zae (by simpa using q2)]
   refine Zaq (wpS_get ?_);refine Zaq (Za0 (Za9 (I:=λk c st'=>(∃ g,st'=bU st g)/\∃ out na nb mg,c=((none,na,nb,out,mg):T5)/\Ih r a b out na nb/\na+nb+k+1<=a.size+b.size)
    (Q:=λc st'=>(∃ g,st'=bU st g)/\∃ out x,c=((some out,x):T5)/\Good r a b out) ?_ ?_ ⟨⟨gallopOf st,rfl⟩,_,a.size-1,b.size,_,rfl,⟨m,by lia,by lia,by lia,Zai _⟩,by lia⟩) ?_)
   ·rintro k c st' _ hk' ⟨⟨g,rfl⟩,out,na,nb,mg,rfl,I,hn⟩;have:=I.a0;refine Za0 (RL (c:=(none,na,nb,out,mg)) hc (show kindOf (bU st g)=κ from hk) o I) λe st3 p=>?_;obtain⟨⟨g2,rfl⟩,p⟩:=p
    match e,p with
    |.done (some o4,x),p=>exact⟨⟨g2,rfl⟩,o4,x,rfl,p⟩
    |.done (none,_),p=>exact p.elim
    |.yield (none,i4,j4,o4,m4),p=>exact⟨⟨g2,rfl⟩,o4,i4,j4,m4,rfl,p.1,by have:i4+j4<=na+nb-1:=p.2;lia⟩
    |.yield (some _,_),p=>exact p.elim
   ·rintro c st' ⟨_,out,na,nb,mg,rfl,I,hn⟩;have:=I.a0;lia
   ·rintro c st' ⟨⟨g,rfl⟩,out,x,rfl,G⟩;exact Zav (h out g G)
end
theorem yZ(i:Nat):∀ (M:List Keyed) (a:Array Keyed) (n:Nat),i+n+M.length<=a.size->((M.zipIdx n).foldl (λa (p:Keyed×Nat)=>a.setIfInBounds (i+p.2) p.1) a).toList=a.toList.take (i+n)++M++a.toList.drop (i+n+M.length)
 |[],a,n,_=>by simp
 |x::M,a,n,h=>by
  rw[Zaz] at h ⊢;rw[List.zipIdx_cons,List.foldl_cons,yZ i M _ (n+1) (by rw[Array.size_setIfInBounds];lia),Array.toList_setIfInBounds]
  have e1:(a.toList.set (i+n) x).take (i+(n+1))=a.toList.take (i+n)++[x]:=by
   rw[show i+(n+1)=i+n+1 by lia,List.take_succ,List.take_set_of_le (Zai _),ZaT (by simp;lia)]
   rfl
  have e2:(a.toList.set (i+n) x).drop (i+(n+1)+M.length)=a.toList.drop (i+n+(M.length+1)):=by
   rw[List.drop_set_of_lt (by lia),show i+(n+1)+M.length=i+n+(M.length+1) by lia]
  rw[e1,e2];simp
theorem Od(M:List Keyed)(a:Array Keyed)(i:Nat)(h:i+M.length<=a.size):(M.zipIdx.foldl (λa (p:Keyed×Nat)=>a.setIfInBounds (i+p.2) p.1) a).toList=a.toList.take i++M++a.toList.drop (i+M.length):=yZ i M a 0 h
section
variable{prog:Program}{w:World}{A:Around}{E:Value->Shared->Prop}{s:Shared}{κ:SortKind}{D:Keyed->Prop}{r:Keyed->Nat}{st:SortSt}
theorem RM{M:Model}{st2:SortSt}{Q:PUnit->SortSt->Prop}(h:Q ⟨⟩ st2):wpS M A E s (set st2:StateT SortSt Sem PUnit) Q st:=by
 unfold wpS;rw[StateT.run_set];exact Zaf ⟨rfl,h⟩
def bG(l:List Keyed)(i j:Nat):List Keyed:=(l.take j).drop i
theorem uP(l:List Keyed)(i j:Nat):(l.drop i).take (j-i)=bG l i j:=by unfold bG;rw[List.drop_take]
theorem Vv(l:List Keyed){i j:Nat}(h:i<=j):l=l.take i++bG l i j++l.drop j:=by
 unfold bG
 conv=>lhs;rw[<-ZaI j l,<-ZaI i (l.take j)]
 rw[Zbz,Zbk h]
theorem iu(l:List Keyed){i j k:Nat}(h:i<=j)(h2:j<=k):bG l i k=bG l i j++bG l j k:=by
 unfold bG;rw[lD (l.take k) h,Zbz,Zbk h2]
theorem wk(l:List Keyed)(i j n:Nat):(bG l i j).take n=bG l i (min (i+n) j):=by
 unfold bG;rw[List.take_drop,Zbz]
theorem wu(l:List Keyed)(i j n:Nat):(bG l i j).drop n=bG l (i+n) j:=by
 unfold bG;rw[List.drop_drop]
theorem jC(l:List Keyed){i j:Nat}(h:j<=l.length):(bG l i j).length=j-i:=by
 unfold bG;rw[List.length_drop,List.length_take,Zbk h]
theorem tD(l:List Keyed){i j n:Nat}(h:i+n<j):(bG l i j)[n]?=l[i+n]?:=by
 unfold bG;rw[List.getElem?_drop,List.getElem?_take,Zag h]
theorem uQ{l:List Keyed}{i j:Nat}{x:Keyed}(h:x∈bG l i j):x∈l:=ZaO (ZaU h)
def Unl(r:Keyed->Nat)(l:List Keyed):Prop:=l.Pairwise λx y=>r x≠r y
theorem Unl.parts{l:List Keyed}(u:Unl r l){i j k:Nat}(h:i<=j)(h2:j<=k):∀ x∈bG l i j,∀ y∈bG l j k,r x≠r y:=λx hx y hy=>by
 have:Unl r (bG l i k):=Zao ((ZaV _ _).trans (ZaP _ _)) u;rw[iu l h h2] at this;exact(Zat.mp this).2.2 x hx y hy
theorem Ed{i sa na sb nb p1 p2:Nat}(hc:Cmp prog w A s κ D r)(hk:kindOf st=κ)(hf:failedOf st=none)(e1:(pendingOf st)[i]?=some (sa,na,p1))(e2:(pendingOf st)[i+1]?=some (sb,nb,p2))(hs:sb=sa+na)(n1:1<=na)(n2:1<=nb)(hz:sb+nb<=(arrOf st).size)
  (dm:∀ x∈(arrOf st).toList,D x)(un:Unl r (arrOf st).toList)(s1:Srt r (bG (arrOf st).toList sa sb))(s2:Srt r (bG (arrOf st).toList sb (sb+nb))){Q:Bool->SortSt->Prop}
  (h:∀ (M:List Keyed) arr' g,arr'.toList=(arrOf st).toList.take sa++M++(arrOf st).toList.drop (sb+nb)->M.Perm (bG (arrOf st).toList sa (sb+nb))->Srt r M->Q true (SortSt.mk' κ arr' (((pendingOf st).setIfInBounds i (sa,na+nb,p1)).eraseIdxIfInBounds (i+1)) g none)) :
  wpS (model prog w) A E s (mergeAt' i) Q st:=by
 obtain⟨kd,arr,pd,gl,fl⟩:=st;have hk:kd=κ:=hk;have hf:fl=none:=hf;subst hk hf;have ll:arr.toList.length=arr.size:=by simp
 have hz:sb+nb<=arr.size:=hz;have dm:∀ x∈arr.toList,D x:=dm;have un:Unl r arr.toList:=un;have s1:Srt r (bG arr.toList sa sb):=s1;have s2:Srt r (bG arr.toList sb (sb+nb)):=s2;rw[DQ];refine Zaq (wpS_get ?_);dsimp only;rw[e1,e2];dsimp only;refine Zaq (RM ?_);obtain⟨y0,ey,ey'⟩:=getL (l:=arr) (i:=sb) (by omega)
 refine Zaq (bF ey' ?_);have ne12:=un.parts (i:=sa) (j:=sb) (k:=sb+nb) (by omega) (by omega)
 have my0:y0∈bG arr.toList sb (sb+nb):=Zal (i:=0) (by rw[tD _ (by omega)];exact ey)
 have y0le:∀ z∈bG arr.toList sb (sb+nb),r y0<=r z:=λz hz'=>m5 (i:=0) s2 (by rw[tD _ (by omega)];exact ey) z (by rw[Zbo];exact hz')
 refine Zaq (gD (L:=bG arr.toList sa sb) hc rfl (by omega) (by omega) (by rw[<-uP,show sb-sa=na by omega]) (dm y0 (my ey)) (λz hz'=>⟨dm z (uQ hz'),ne12 z hz' y0 my0⟩) s1 λk hk' g1 g2=>?_)
 dsimp only;have whole:∀ g,(∀ x∈bG arr.toList sa sb,∀ y∈bG arr.toList sb (sb+nb),r x<r y)->Q true (SortSt.mk' kd arr ((pd.setIfInBounds i (sa,na+nb,p1)).eraseIdxIfInBounds (i+1)) g none):=λg hlt=>by
  refine h (bG arr.toList sa (sb+nb)) arr g (Vv _ (by omega)) (List.Perm.refl _) ?_
  rw[iu _ (show sa<=sb by omega) (show sb<=sb+nb by omega)]
  exact Zat.mpr ⟨s1,s2,hlt⟩
 by_cases q1:na-k=0
 ·rw[Zag (by simpa using q1)]
  refine Zav (whole _ λx hx y hy=>?_);have:(bG arr.toList sa sb).take k=bG arr.toList sa sb:=Zba (by rw[jC _ (by omega)];omega)
  rw[this] at g1;exact Zap (g1 x hx) (y0le y hy)
 ·rw[Zae (by simpa using q1)]
  have es:sa+k+(na-k)-1=sb-1:=by omega
  rw[es];obtain⟨x1,ex,ex'⟩:=getL (l:=arr) (i:=sb-1) (by omega)
  refine Zaq (bF ex' ?_);have exA:(bG arr.toList sa sb)[na-1]?=some x1:=by rw[tD _ (by omega),show sa+(na-1)=sb-1 by omega];exact ex
  have mx1:x1∈bG arr.toList sa sb:=Zal exA;have x1le:∀ z∈bG arr.toList sa sb,r z<=r x1:=λz hz'=>m6 (n:=na) s1 n1 exA z (by rw[Zba (by rw[jC _ (by omega)];omega)];exact hz')
  refine Zaq (gD (L:=bG arr.toList sb (sb+nb)) hc rfl (by omega) (by omega) (by rw[<-uP,ZbO]) (dm x1 (my ex)) (λz hz'=>⟨dm z (uQ hz'),λe=>ne12 x1 mx1 z hz' e.symm⟩) s2 λm hm f1 f2=>?_)
  dsimp only;by_cases q2:m=0
  ·rw[Zag (by simpa using q2)]
   refine Zav (whole _ λx hx y hy=>?_);rw[q2,Zbo] at f2;exact Nat.lt_of_le_of_lt (x1le x hx) (f2 y hy)
  ·rw[Zae (by simpa using q2)]
   rw[wu] at g2 f2;rw[wk,Zbk (by omega)] at g1 f1
   have tx:(arr.extract (sa+k) sb).toList=bG arr.toList (sa+k) sb:=by rw[ext_toList arr _ _ (by omega) (by omega),uP]
   have ty:(arr.extract sb (sb+m)).toList=bG arr.toList sb (sb+m):=by rw[ext_toList arr _ _ (by omega) (by omega),uP]
   have zx:(arr.extract (sa+k) sb).size=na-k:=by rw[<-Za3,tx,jC _ (by omega)];omega
   have zy:(arr.extract sb (sb+m)).size=m:=by rw[<-Za3,ty,jC _ (by omega)];omega
   have sx:Srt r (bG arr.toList (sa+k) sb):=by
    rw[<-wu];exact Zao (ZaV _ _) s1
   have sy:Srt r (bG arr.toList sb (sb+m)):=by
    have:bG arr.toList sb (sb+m)=(bG arr.toList sb (sb+nb)).take m:=by rw[wk,Zbk (by omega)]
    rw[this];exact Zao (ZaP _ _) s2
   have inx:∀ z∈bG arr.toList (sa+k) sb,z∈bG arr.toList sa sb:=λz hz'=>by rw[<-wu] at hz';exact ZaU hz'
   have iny:∀ z∈bG arr.toList sb (sb+m),z∈bG arr.toList sb (sb+nb):=λz hz'=>by
    have:bG arr.toList sb (sb+m)=(bG arr.toList sb (sb+nb)).take m:=by rw[wk,Zbk (by omega)]
    rw[this] at hz';exact ZaO hz'
   have fy:∀ y,(arr.extract sb (sb+m)).toList[0]?=some y->∀ x∈(arr.extract (sa+k) sb).toList,r y<r x:=λy hy x hx=>by
    rw[ty,tD _ (by omega),Nat.add_zero,ey] at hy
    cases hy;rw[tx] at hx;exact g2 x hx
   have lx:∀ x,(arr.extract (sa+k) sb).toList[(arr.extract (sa+k) sb).size-1]?=some x->∀ y∈(arr.extract sb (sb+m)).toList,r y<r x:=λx hx y hy=>by
    rw[tx,zx,tD _ (by omega),show sa+k+(na-k-1)=sb-1 by omega,ex] at hx
    cases hx;rw[ty] at hy;exact f1 y hy
   have fin:∀ (out:Array Keyed) (g:Nat),Good r (arr.extract (sa+k) sb) (arr.extract sb (sb+m)) out->wpS (model prog w) A E s (do
     modify λs=>setArr s (out.toList.zipIdx.foldl (λa (p,j)=>a.setIfInBounds (sa+k+j) p) (arrOf s))
     return (failedOf (<-get)).isNone) Q (SortSt.mk' kd arr ((pd.setIfInBounds i (sa,na+nb,p1)).eraseIdxIfInBounds (i+1)) g none):=λout g G=>by
    refine Zaq (wpS_modify (Zaq (wpS_get (Zav ?_))));obtain⟨G1,G2⟩:=G;rw[tx,ty] at G2;have ol:out.toList.length=na-k+m:=by rw[G2.length_eq,List.length_append,jC _ (by omega),jC _ (by omega)];omega
    have fs:=Od out.toList arr (sa+k) (by rw[ol];omega)
    rw[ol,show sa+k+(na-k+m)=sb+m by omega] at fs
    refine h (bG arr.toList sa (sa+k)++out.toList++bG arr.toList (sb+m) (sb+nb)) _ g ?_ ?_ ?_
    ·refine Eq.trans fs ?_;have t1:arr.toList.take (sa+k)=arr.toList.take sa++bG arr.toList sa (sa+k):=by
      have:=Vv (arr.toList.take (sa+k)) (i:=sa) (j:=sa+k) (by omega)
      rw[Zbz,Zbk (by omega),show(arr.toList.take (sa+k)).drop (sa+k)=[] from Zbj (by simp;omega),ZaJ] at this
      unfold bG at this ⊢;rw[Zbz,Nat.min_self] at this;exact this
     have t2:arr.toList.drop (sb+m)=bG arr.toList (sb+m) (sb+nb)++arr.toList.drop (sb+nb):=lD _ (by omega)
     rw[t1,t2];simp only[Zax]
    ·rw[iu arr.toList (show sa<=sa+k by omega) (show sa+k<=sb+nb by omega),iu arr.toList (show sa+k<=sb by omega) (show sb<=sb+nb by omega),iu arr.toList (show sb<=sb+m by omega) (show sb+m<=sb+nb by omega)]
     simp only[Zax];refine Za2 _ ?_;rw[<-Zax];exact ZbV _ G2
    ·have mo:∀ z∈out.toList,z∈bG arr.toList (sa+k) sb\/z∈bG arr.toList sb (sb+m):=λz hz'=>Zah.mp (G2.mem_iff.mp hz');have sA:Srt r (bG arr.toList sa (sa+k)++bG arr.toList (sa+k) sb):=by rw[<-iu _ (by omega) (by omega)];exact s1
     have sB:Srt r (bG arr.toList sb (sb+m)++bG arr.toList (sb+m) (sb+nb)):=by rw[<-iu _ (by omega) (by omega)];exact s2
     have pA:=Zat.mp sA;have pB:=Zat.mp sB;refine Zat.mpr ⟨Zat.mpr ⟨pA.1,G1,λx hx z hz'=>?_⟩,pB.2.1,λx hx y hy=>?_⟩
     ·rcases mo z hz' with q|q
      ·exact pA.2.2 x hx z q
      ·exact Zap (g1 x hx) (y0le z (iny z q))
     ·rcases Zah.mp hx with q|q
      ·have hy':y∈bG arr.toList sb (sb+nb):=by rw[iu arr.toList (show sb<=sb+m by omega) (show sb+m<=sb+nb by omega)];exact Zah.mpr (.inr hy)
       exact Zap (g1 x q) (y0le y hy')
      ·rcases mo x q with q|q
       ·exact Nat.lt_of_le_of_lt (x1le x (inx x q)) (f2 y hy)
       ·exact pB.2.2 x q y hy
   have nexy:∀ x∈(arr.extract (sa+k) sb).toList,∀ y∈(arr.extract sb (sb+m)).toList,r x≠r y:=λx hx y hy=>by
    rw[tx] at hx;rw[ty] at hy;exact ne12 x (inx x hx) y (iny y hy)
   have dax:∀ x∈(arr.extract (sa+k) sb).toList,D x:=λx hx=>by rw[tx] at hx;exact dm x (uQ hx)
   have day:∀ x∈(arr.extract sb (sb+m)).toList,D x:=λx hx=>by rw[ty] at hx;exact dm x (uQ hx)
   by_cases q3:na-k<=m
   ·rw[Zag q3];refine Zaq (DX hc rfl (by omega) (by omega) ⟨dax,day,by rw[tx];exact sx,by rw[ty];exact sy,nexy,lx⟩ fy λout g G=>?_)
    exact fin out g G
   ·rw[Zae q3];refine Zaq (Ec hc rfl (by omega) (by omega) ⟨dax,day,by rw[tx];exact sx,by rw[ty];exact sy,nexy,fy⟩ lx λout g G=>?_)
    exact fin out g G
end
def Rk(r:Keyed->Nat)(a:Array Keyed)(k:Nat):Nat:=match a[k]? with
 |some x=>r x
 |none=>0
def gq(r:Keyed->Nat)(a:Array Keyed)(i j:Nat):Prop:=∀ p q,i<=p->p<q->q<j->Rk r a p<Rk r a q
def W9(r:Keyed->Nat)(a:Array Keyed)(i j:Nat):Prop:=∀ p q,i<=p->p<q->q<j->Rk r a q<Rk r a p
theorem za{r:Keyed->Nat}{a b:Array Keyed}{i j:Nat}(h:a[i]?=b[j]?):Rk r a i=Rk r b j:=by unfold Rk;rw[h]
theorem Jf{r:Keyed->Nat}{a:Array Keyed}{k:Nat}{x:Keyed}(h:a[k]?=some x):Rk r a k=r x:=by unfold Rk;rw[h]
theorem uR{r:Keyed->Nat}{a:Array Keyed}{i j:Nat}(h:j<=a.size):Srt r (bG a.toList i j)↔gq r a i j:=by
 have ll:a.toList.length=a.size:=by simp
 have cl:=jC a.toList (i:=i) (j:=j) (by lia)
 have at_:∀ p (hp:p<(bG a.toList i j).length),r ((bG a.toList i j)[p])=Rk r a (i+p):=λp hp=>by
  have e:(bG a.toList i j)[p]?=a[i+p]?:=by rw[tD _ (by lia),ZaH]
  rw[List.getElem?_eq_getElem hp] at e;exact(Jf e.symm).symm
 constructor
 ·intro h1 p q h2 h3 h4;have:=ZbL.mp h1 (p-i) (q-i) (by lia) (by lia) (by lia)
  rw[at_ _ (by lia),at_ _ (by lia),show i+(p-i)=p by lia,show i+(q-i)=q by lia] at this
  exact this
 ·intro h1;refine ZbL.mpr λp q hp hq hpq=>?_;rw[at_ p hp,at_ q hq];exact h1 (i+p) (i+q) (by lia) (by lia) (by lia)
section
variable{prog:Program}{w:World}{A:Around}{E:Value->Shared->Prop}{s:Shared}{κ:SortKind}{D:Keyed->Prop}{r:Keyed->Nat}{st:SortSt}
structure Bs(D:Keyed->Prop)(r:Keyed->Nat)(a:Array Keyed):Prop where
 dm:∀ (k:Nat) x,a[k]?=some x->D x
 un:∀ p q,p<q->q<a.size->Rk r a p≠Rk r a q
theorem Bs.of{a:Array Keyed}(d:∀ x∈a.toList,D x)(u:Unl r a.toList):Bs D r a:=by
 refine⟨λk x h=>d x (Zal (by rw[ZaH];exact h)),λp q h1 h2=>?_⟩
 have:=ZbL.mp u p q (by simp;lia) (by simp;lia) h1
 have e:∀ k (hk:k<a.size),Rk r a k=r (a.toList[k]'(by simpa using hk)):=λk hk=>Jf (by rw[ZaE hk,Array.getElem_toList])
 rw[e p (by lia),e q h2]
 exact this
theorem Unl.perm{l m:List Keyed}(u:Unl r l)(p:m.Perm l):Unl r m:=(p.pairwise_iff (λh=>ZaX h)).mpr u
theorem Bs.perm{a b:Array Keyed}(d:∀ x∈a.toList,D x)(u:Unl r a.toList)(p:b.Perm a):Bs D r b:=
 have p:=Zbe.mp p
 Bs.of (λx hx=>d x (p.mem_iff.mp hx)) (u.perm p)
theorem iY(hc:Cmp prog w A s κ D r)(hk:kindOf st=κ)(b:Bs D r (arrOf st)){i j:Nat}(hi:i<(arrOf st).size)(hj:j<(arrOf st).size){Q:Option Bool->SortSt->Prop}(h:Q (some (decide (Rk r (arrOf st) i<Rk r (arrOf st) j))) st):wpS (model prog w) A E s (ltAt' i j) Q st:=by
 obtain⟨x,ex⟩:∃ x,(arrOf st)[i]?=some x:=⟨_,ZaE hi⟩;obtain⟨y,ey⟩:∃ y,(arrOf st)[j]?=some y:=⟨_,ZaE hj⟩;rw[ltAt'_eq];refine Zaq (wpS_get ?_);show wpS _ _ _ _ (do let x <-elem' (arrOf st) i;let y <-elem' (arrOf st) j;lt' x y) Q st
 refine Zaq (bF ex (Zaq (bF ey (wj hc hk (b.dm i x ex) (b.dm j y ey) ?_))));rw[Jf ex,Jf ey] at h;exact h
theorem gq.snoc{a:Array Keyed}{i j:Nat}(h:gq r a i j)(hij:i<j)(l:Rk r a (j-1)<Rk r a j):gq r a i (j+1):=λp q h1 h2 h3=>by
 by_cases e:q=j
 ·subst e;by_cases e2:p=q-1
  ·rw[e2];exact l
  ·exact Nat.lt_trans (h p (q-1) h1 (by lia) (by lia)) l
 ·exact h p q h1 h2 (by lia)
theorem wpS_countRun{lo nrem:Nat}(hc:Cmp prog w A s κ D r)(hk:kindOf st=κ)(dm:∀ x∈(arrOf st).toList,D x)(un:Unl r (arrOf st).toList)(hn:1<=nrem)(hz:lo+nrem=(arrOf st).size){Q:Option Nat->SortSt->Prop}
  (h:∀ n arr',1<=n->n<=nrem->arr'.Perm (arrOf st)->(∀ k,k<lo->arr'[k]?=(arrOf st)[k]?)->gq r arr' lo (lo+n)->Q (some n) (setArr st arr')):wpS (model prog w) A E s (countRun' lo nrem) Q st:=by
 have b:=Bs.of dm un;rw[countRun'_eq];refine Zaq (Za0 (Za9 (I:=λk c st'=>st'=st/\c=(none,k)/\gq r (arrOf st) lo (lo+k))
  (Q:=λc st'=>st'=st/\∃ n,c=(none,n)/\1<=n/\n<=nrem/\gq r (arrOf st) lo (lo+n)/\(n<nrem->Rk r (arrOf st) (lo+n)<Rk r (arrOf st) (lo+n-1))) ?_ ?_ ⟨rfl,rfl,λp q h1 h2 h3=>by lia⟩) ?_)
 ·rintro k c st' h1 h2 ⟨rfl,rfl,S⟩;dsimp only;refine Zaq (iY hc hk b (by lia) (by lia) ?_)
  dsimp only;by_cases q:Rk r (arrOf st') (lo+k)<Rk r (arrOf st') (lo+k-1)
  ·rw[ZaB q,Zag rfl];exact Zav ⟨rfl,k,rfl,h1,by lia,S,λ_=>q⟩
  ·rw[ZaC q,Zae (by decide)]
   refine Zav ⟨rfl,rfl,?_⟩;have:=b.un (lo+k-1) (lo+k) (by lia) (by lia)
   exact S.snoc (by lia) (by lia)
 ·rintro c st' ⟨rfl,rfl,S⟩;exact⟨rfl,_,rfl,by lia,by lia,S,λz=>by lia⟩
 ·rintro c st' ⟨rfl,n,rfl,h1,h2,S,hbr⟩;dsimp only;by_cases q1:n=nrem
  ·rw[Zag (by simpa using q1)]
   exact Zav (h n (arrOf st') h1 h2 (Array.Perm.refl _) (λ_ _=>rfl) S)
  ·rw[Zae (by simpa using q1)]
   by_cases q2:n>1
   ·rw[Zag q2];refine Zaq (iY hc hk b (by lia) (by lia) ?_)
    dsimp only;rw[ZaB (S lo (lo+n-1) (Zai _) (by lia) (by lia)),Zag rfl]
    exact Zav (h n (arrOf st') h1 h2 (Array.Perm.refl _) (λ_ _=>rfl) S)
   ·rw[Zae q2];have n1:n=1:=by lia
    subst n1;have hbr:=hbr (by lia)
    refine Zaq (j7 ?_);refine Zaq (Za0 (Za9 (I:=λk c st2=>st2=st'/\c=(none,k,0)/\W9 r (arrOf st') lo (lo+k))
     (Q:=λc st2=>st2=st'/\∃ n,c=(none,n,0)/\2<=n/\n<=nrem/\W9 r (arrOf st') lo (lo+n)) ?_ ?_ ⟨rfl,rfl,λp q h1 h2 h3=>by
      have e1:p=lo+1-1:=by lia
      have e2:q=lo+1:=by lia
      rw[e1,e2];exact hbr⟩) ?_)
    ·rintro k c st2 g1 g2 ⟨rfl,rfl,S2⟩;dsimp only;refine Zaq (iY hc hk b (by lia) (by lia) ?_)
     dsimp only;by_cases q:Rk r (arrOf st2) (lo+k)<Rk r (arrOf st2) (lo+k-1)
     ·rw[ZaB q,Zag rfl,Zae (by lia)]
      refine Zav ⟨rfl,rfl,λp q' h1 h2 h3=>?_⟩;by_cases e:q'=lo+k
      ·subst e;by_cases e2:p=lo+k-1
       ·rw[e2];exact q
       ·exact Nat.lt_trans q (S2 p (lo+k-1) h1 (by lia) (by lia))
      ·exact S2 p q' h1 h2 (by lia)
     ·rw[ZaC q,Zae (by decide)]
      refine Zaq (iY hc hk b (by lia) (by lia) ?_)
      dsimp only;have:=b.un (lo+k-1) (lo+k) (by lia) (by lia)
      rw[ZaB (show Rk r (arrOf st2) (lo+k-1)<Rk r (arrOf st2) (lo+k) by lia),Zag rfl]
      exact Zav ⟨rfl,k,rfl,by lia,by lia,S2⟩
    ·rintro c st2 ⟨rfl,rfl,S2⟩;exact⟨rfl,_,rfl,by lia,by lia,S2⟩
    ·rintro c st2 ⟨rfl,n,rfl,g1,g2,S2⟩;dsimp only;rw[Zae (by lia),reverseSlice'_eq]
     refine Zaq (wpS_modify ?_);have mz:=mirror_size (arrOf st2) lo (lo+n) ((lo+n-lo)/2);have mp:=mirror_perm (arrOf st2) lo (lo+n) ((lo+n-lo)/2);have mg:=getElem?_mirror_all (xs:=arrOf st2) (i:=lo) (j:=lo+n) (by lia)
     generalize mirror (arrOf st2) lo (lo+n) ((lo+n-lo)/2)=a2 at mz mp mg
     have b2:Bs D r a2:=Bs.perm dm un mp;have pre:∀ k,k<lo->a2[k]?=(arrOf st2)[k]?:=λk hk2=>by rw[mg,Zae (by lia)]
     have S3:gq r a2 lo (lo+n):=λp q h1 h2 h3=>by
      have rp:∀ p,lo<=p->p<lo+n->Rk r a2 p=Rk r (arrOf st2) (lo+(lo+n)-1-p):=λp g3 g4=>za (by rw[mg,Zag ⟨g3,g4⟩])
      rw[rp p h1 (by lia),rp q (by lia) h3]
      exact S2 _ _ (by lia) (by lia) (by lia)
     refine Zaq (Za0 (Za9 (I:=λk c st3=>st3=setArr st2 a2/\c=(none,k)/\gq r a2 lo (lo+k))
      (Q:=λc st3=>st3=setArr st2 a2/\∃ m,c=(none,m)/\n<=m/\m<=nrem/\gq r a2 lo (lo+m)) ?_ ?_ ⟨rfl,rfl,S3⟩) ?_)
     ·rintro k c st3 f1 f2 ⟨rfl,rfl,S⟩;dsimp only;refine Zaq (iY (st:=setArr st2 a2) hc hk b2 (by show _<a2.size;lia) (by show _<a2.size;lia) ?_)
      dsimp only;by_cases q:Rk r a2 (lo+k)<Rk r a2 (lo+k-1)
      ·rw[show arrOf (setArr st2 a2)=a2 from rfl,ZaB q,Zag rfl];exact Zav ⟨rfl,k,rfl,f1,by lia,S⟩
      ·rw[show arrOf (setArr st2 a2)=a2 from rfl,ZaC q,Zae (by decide)]
       refine Zav ⟨rfl,rfl,?_⟩;have:=b2.un (lo+k-1) (lo+k) (by lia) (by lia)
       exact S.snoc (by lia) (by lia)
     ·rintro c st3 ⟨rfl,rfl,S⟩;exact⟨rfl,_,rfl,by lia,by lia,S⟩
     ·rintro c st3 ⟨rfl,m,rfl,f1,f2,S⟩;exact Zav (h m a2 (by lia) f2 mp pre S)
theorem wpS_binarySort{lo n ok:Nat}(hc:Cmp prog w A s κ D r)(hk:kindOf st=κ)(dm:∀ x∈(arrOf st).toList,D x)(un:Unl r (arrOf st).toList)(h1:1<=ok)(h2:ok<=n)(hz:lo+n<=(arrOf st).size)(S:gq r (arrOf st) lo (lo+ok)){Q:Bool->SortSt->Prop}
  (h:∀ arr',arr'.Perm (arrOf st)->(∀ k,k<lo->arr'[k]?=(arrOf st)[k]?)->gq r arr' lo (lo+n)->Q true (setArr st arr')):wpS (model prog w) A E s (binarySort' lo n ok) Q st:=by
 rw[binarySort'_eq];refine Zaq (Za0 (Za9 (I:=λk c st'=>c=(none,())/\∃ arr',st'=setArr st arr'/\arr'.Perm (arrOf st)/\(∀ k,k<lo->arr'[k]?=(arrOf st)[k]?)/\gq r arr' lo (lo+k))
  (Q:=λc st'=>c=(none,())/\∃ arr',st'=setArr st arr'/\arr'.Perm (arrOf st)/\(∀ k,k<lo->arr'[k]?=(arrOf st)[k]?)/\gq r arr' lo (lo+n)) ?_ ?_ ⟨rfl,arrOf st,rfl,Array.Perm.refl _,λ_ _=>rfl,by rw[Nat.max_eq_left h1];exact S⟩) ?_)
 ·rintro k c st' g1 g2 ⟨rfl,a2,rfl,p2,pre,S2⟩;have z2:a2.size=(arrOf st).size:=p2.size_eq;have b2:Bs D r a2:=Bs.perm dm un p2;have kl:lo+k<a2.size:=by omega
  refine Zaq (Za0 (Za9 (I:=λt c st2=>st2=setArr st a2/\∃ l e,c=((none:Option Bool),l,e)/\l<=e/\e<=k/\(∀ i,i<l->Rk r a2 (lo+i)<Rk r a2 (lo+k))/\(∀ i,e<=i->i<k->Rk r a2 (lo+k)<Rk r a2 (lo+i))/\e-l+t<=k)
   (Q:=λc st2=>st2=setArr st a2/\∃ l,c=((none:Option Bool),l,l)/\l<=k/\(∀ i,i<l->Rk r a2 (lo+i)<Rk r a2 (lo+k))/\(∀ i,l<=i->i<k->Rk r a2 (lo+k)<Rk r a2 (lo+i))) ?_ ?_ ⟨rfl,0,k,rfl,by omega,Zai _,λi hi=>by omega,λi h3 h4=>by omega,by omega⟩) ?_)
  ·rintro t c st2 _ ht ⟨rfl,l,e,rfl,f1,f2,f3,f4,f5⟩;dsimp only;by_cases q:l>=e
   ·rw[Zag q];have:l=e:=by omega
    subst this;exact Zav ⟨rfl,l,rfl,f2,f3,f4⟩
   ·rw[Zae q];refine Zaq (iY (st:=setArr st a2) hc hk b2 (by show _<a2.size;omega) (by show _<a2.size;omega) ?_)
    dsimp only;rw[show arrOf (setArr st a2)=a2 from rfl];by_cases q2:Rk r a2 (lo+k)<Rk r a2 (lo+(l+e)/2)
    ·rw[ZaB q2,Zag rfl];refine Zav ⟨rfl,l,(l+e)/2,rfl,by omega,by omega,f3,λi h3 h4=>?_,by omega⟩
     by_cases q3:i=(l+e)/2
     ·rw[q3];exact q2
     ·exact Nat.lt_trans q2 (S2 _ _ (by omega) (by omega) (by omega))
    ·rw[ZaC q2,Zae (by decide)]
     have ne:=b2.un (lo+(l+e)/2) (lo+k) (by omega) kl
     refine Zav ⟨rfl,(l+e)/2+1,e,rfl,by omega,f2,λi hi=>?_,f4,by omega⟩
     by_cases q3:i=(l+e)/2
     ·rw[q3];omega
     ·exact Nat.lt_trans (S2 (lo+i) (lo+(l+e)/2) (by omega) (by omega) (by omega)) (by omega)
  ·rintro c st2 ⟨rfl,l,e,rfl,f1,f2,f3,f4,f5⟩;have:l=e:=by omega
   subst this;exact⟨rfl,l,rfl,f2,f3,f4⟩
  ·rintro c st2 ⟨rfl,l,rfl,f1,f2,f3⟩;dsimp only;rw[moveDown'_eq];refine Zaq (wpS_modify (Zav ?_));have bz:=bubble_perm a2 (lo+k) (lo+k-(lo+l));have bg:=getElem?_bubble (xs:=a2) (src:=lo+k) kl (lo+k-(lo+l)) (by omega)
   refine⟨rfl,bubble a2 (lo+k) (lo+k-(lo+l)),rfl,bz.trans p2,?_,?_⟩
   ·intro i hi;rw[bg,Zae (by omega),Zae (by omega)]
    exact pre i hi
   ·generalize bubble a2 (lo+k) (lo+k-(lo+l))=a3 at bg
    rw[show lo+k-(lo+k-(lo+l))=lo+l by omega] at bg
    have rk3:∀ i,Rk r a3 i=if i=lo+l then Rk r a2 (lo+k) else if lo+l<i/\i<=lo+k then Rk r a2 (i-1) else Rk r a2 i:=λi=>by
     have:=bg i;split at this
     ·rename_i e;rw[Zag e];exact za this
     ·rename_i e;rw[Zae e];split at this
      ·rename_i e2;rw[Zag e2];exact za this
      ·rename_i e2;rw[Zae e2];exact za this
    intro p q h3 h4 h5;rw[rk3 p,rk3 q];by_cases p1:p=lo+l
    ·rw[Zag p1,Zae (by omega),Zag (by omega)]
     have:=f3 (q-1-lo) (by omega) (by omega)
     rw[show lo+(q-1-lo)=q-1 by omega] at this
     exact this
    ·rw[Zae p1];by_cases p2':lo+l<p
     ·rw[Zag ⟨p2',by omega⟩,Zae (by omega),Zag (by omega)]
      exact S2 _ _ (by omega) (by omega) (by omega)
     ·rw[Zae (by omega)]
      by_cases q1:q=lo+l
      ·rw[Zag q1];have:=f2 (p-lo) (by omega)
       rw[show lo+(p-lo)=p by omega] at this
       exact this
      ·rw[Zae q1];by_cases q2:lo+l<q
       ·rw[Zag ⟨q2,by omega⟩]
        exact S2 _ _ h3 (by omega) (by omega)
       ·rw[Zae (by omega)]
        exact S2 _ _ h3 h4 (by omega)
 ·rintro c st' ⟨rfl,a2,rfl,p2,pre,S2⟩;refine⟨rfl,a2,rfl,p2,pre,?_⟩;rw[show max (max ok 1) n=n by omega] at S2
  exact S2
 ·rintro c st' ⟨rfl,a2,rfl,p2,pre,S2⟩;exact Zav (h a2 p2 pre S2)
end
def rB(pw:Nat):StateT SortSt Sem (ForInStep (Option Unit×Unit)):=do
 let s <-get
 match(if(pendingOf s).size>1 then(pendingOf s)[(pendingOf s).size-2]? else none) with
 |some x=>if x.2.2<=pw then pure (.done (none,())) else do
  let ok <-mergeAt' ((pendingOf s).size-2)
  if(!ok)=true then pure (.done (some (),())) else pure (.yield (none,()))
 |none=>pure (.done (none,()))
def oh(lo n:Nat):StateT SortSt Sem (ForInStep (Option Unit×Nat)):=do
 modify λs=>setPending s ((pendingOf s).push (lo,n,0))
 pure (.yield (none,lo+n))
def lay(size lo n:Nat):StateT SortSt Sem (ForInStep (Option Unit×Nat)):=do
 let s <-get
 match(pendingOf s).back? with
 |some x=>do
  let c <-forIn [0:size] ((none:Option Unit),()) λ_ _=>rB (power' size (2*x.1+x.2.1) (2*x.1+x.2.1+x.2.1+n) size)
  match c.1 with
  |some r=>pure (.done (some r,lo))
  |none=>do
   modify λs=>setPending s ((pendingOf s).modify ((pendingOf s).size-1) λy=>(y.1,y.2.1,power' size (2*x.1+x.2.1) (2*x.1+x.2.1+x.2.1+n) size))
   oh lo n
 |none=>oh lo n
def Oe(s:SortSt):Nat:=if Option.any (λx=>decide (x<(pendingOf s)[(pendingOf s).size-2+1]?.elim 0 λx=>x.2.1)) (if(pendingOf s).size-2>0 then Option.map (λx=>x.2.1) (pendingOf s)[(pendingOf s).size-2-1]? else none)=true then(pendingOf s).size-2-1 else(pendingOf s).size-2
def Jg:StateT SortSt Sem (ForInStep (Option Unit×Unit)):=do
 let s <-get
 if(pendingOf s).size<=1 then pure (.done (none,())) else do
  let ok <-mergeAt' (Oe s)
  if(!ok)=true then pure (.done (some (),())) else pure (.yield (none,()))
def uT(z:Nat)(c:Option Unit×Nat):StateT SortSt Sem (ForInStep (Option Unit×Nat)):=if c.2>=z then pure (.done (none,c.2)) else(do
 let x <-countRun' c.2 (z-c.2)
 match x with
 |some found=>if found<minRun' z z 0 then(do
   rule "list.sort.binary-insertion"
   let ok <-binarySort' c.2 (min (z-c.2) (minRun' z z 0)) found
   if(!ok)=true then pure (.done (some (),c.2)) else lay z c.2 (min (z-c.2) (minRun' z z 0))) else lay z c.2 found
 |none=>pure (.done (some (),c.2)))
def tE:StateT SortSt Sem Unit:=do
 let s <-get
 let c <-forIn [0:(arrOf s).size] ((none:Option Unit),0) λ_ c=>uT (arrOf s).size c
 match c.1 with
 |some r=>pure r
 |none=>do
  let d <-forIn [0:(arrOf s).size] ((none:Option Unit),()) λ_ _=>Jg
  match d.1 with
  |some r=>pure r
  |none=>pure ()
theorem Be:sortRuns'=tE:=by
 rw[sortRuns'_eq];unfold tE;dsimp only;congr 1;funext s
 congr 1
 ·congr 1
  funext _ c
  obtain⟨c0,lo⟩:=c;unfold uT;dsimp only;congr 1
  congr 1;funext x
  cases x with
  |none=>rfl
  |some found=>
   dsimp only;congr 1
   ·congr 1;funext _
    congr 1;funext ok
    congr 1
    unfold lay oh;congr 1;funext s2
    cases (pendingOf s2).back? with
    |none=>rfl
    |some x=>
     obtain⟨s1,n1,p⟩:=x;dsimp only;congr 1
     ·congr 1
      funext _ d
      unfold rB;congr 1;funext s3
      cases (if(pendingOf s3).size>1 then(pendingOf s3)[(pendingOf s3).size-2]? else none) with
      |none=>rfl
      |some y=>obtain⟨y1,y2,y3⟩:=y;rfl
     ·funext c
      obtain⟨c0,_⟩:=c;cases c0<;>rfl
   ·unfold lay oh;congr 1;funext s2
    cases (pendingOf s2).back? with
    |none=>rfl
    |some x=>
     obtain⟨s1,n1,p⟩:=x;dsimp only;congr 1
     ·congr 1
      funext _ d
      unfold rB;congr 1;funext s3
      cases (if(pendingOf s3).size>1 then(pendingOf s3)[(pendingOf s3).size-2]? else none) with
      |none=>rfl
      |some y=>obtain⟨y1,y2,y3⟩:=y;rfl
     ·funext c
      obtain⟨c0,_⟩:=c;cases c0<;>rfl
 ·funext c
  obtain⟨c0,lo⟩:=c;cases c0 with
  |some r=>rfl
  |none=>
   dsimp only;congr 1
   funext d
   obtain⟨d0,_⟩:=d;cases d0<;>rfl
noncomputable abbrev Pd:=Nat×Nat×Nat
def Rn(r:Keyed->Nat)(a:Array Keyed):Nat->List Pd->Nat->Prop
 |s,[],e=>s=e
 |s,x::l,e=>x.1=s/\1<=x.2.1/\gq r a s (s+x.2.1)/\Rn r a (s+x.2.1) l e
section
variable{r:Keyed->Nat}{a b:Array Keyed}
theorem Rn.le:∀ {l:List Pd}{s e:Nat},Rn r a s l e->s+l.length<=e
 |[],s,e,h=>by cases h;simp
 |x::l,s,e,h=>by
  have:=h.2.2.2.le;have:=h.2.1;simp only[Zaz];omega
theorem Rn.app:∀ {l m:List Pd}{s e:Nat},Rn r a s (l++m) e↔∃ k,Rn r a s l k/\Rn r a k m e
 |[],m,s,e=>⟨λh=>⟨s,rfl,h⟩,λ⟨k,h1,h2⟩=>by cases h1;exact h2⟩
 |x::l,m,s,e=>by
  constructor
  ·rintro⟨h1,h2,h3,h4⟩;obtain⟨k,g1,g2⟩:=Rn.app.mp h4;exact⟨k,⟨h1,h2,h3,g1⟩,g2⟩
  ·rintro⟨k,⟨h1,h2,h3,h4⟩,g2⟩;exact⟨h1,h2,h3,Rn.app.mpr ⟨k,h4,g2⟩⟩
theorem gq.congr{i j:Nat}(h:∀ k,i<=k->k<j->b[k]?=a[k]?)(S:gq r a i j):gq r b i j:=λp q h1 h2 h3=>by
 rw[za (h p h1 (by lia)),za (h q (by lia) h3)]
 exact S p q h1 h2 h3
theorem Rn.congr:∀ {l:List Pd}{s e:Nat},(∀ k,s<=k->k<e->b[k]?=a[k]?)->Rn r a s l e->Rn r b s l e
 |[],_,_,_,h=>h
 |x::l,s,e,hk,⟨h1,h2,h3,h4⟩=>by
  have:=h4.le;exact⟨h1,h2,h3.congr λk g1 g2=>hk k g1 (by lia),Rn.congr (λk g1 g2=>hk k (by lia) g2) h4⟩
theorem Og{l:List Pd}{i:Nat}{x y:Pd}(e1:l[i]?=some x)(e2:l[i+1]?=some y):l=l.take i++x::y::l.drop (i+2):=by
 have h1:=(Zac.mp e1).1;have h2:=(Zac.mp e2).1
 conv=>lhs;rw[<-ZaI i l]
 congr 1
 rw[ZaW h1,ZaW h2];rw[List.getElem?_eq_getElem h1] at e1;rw[List.getElem?_eq_getElem h2] at e2;rw[Zab e1,Zab e2]
theorem KN{l:List Pd}{i:Nat}{x y z:Pd}(e1:l[i]?=some x)(e2:l[i+1]?=some y):(l.set i z).eraseIdx (i+1)=l.take i++z::l.drop (i+2):=by
 have h2:=(Zac.mp e2).1;have hl:(l.take i).length=i:=by simp;lia
 conv=>lhs;rw[Og e1 e2]
 rw[List.set_append_right _ _ (by lia),hl,Nat.sub_self,List.set_cons_zero,List.eraseIdx_append_of_length_le (by lia),hl,ZbO]
 rfl
end
section
variable{prog:Program}{w:World}{A:Around}{E:Value->Shared->Prop}{s:Shared}{κ:SortKind}{D:Keyed->Prop}{r:Keyed->Nat}{st:SortSt}{a0:Array Keyed}
structure Rs(κ:SortKind)(r:Keyed->Nat)(a0:Array Keyed)(lo:Nat)(st:SortSt):Prop where
 kd:kindOf st=κ
 fl:failedOf st=none
 pm:(arrOf st).Perm a0
 rn:Rn r (arrOf st) 0 (pendingOf st).toList lo
 le:lo<=a0.size
theorem Oh{i lo:Nat}(hc:Cmp prog w A s κ D r)(dm:∀ x∈a0.toList,D x)(un:Unl r a0.toList)(R:Rs κ r a0 lo st)(hi:i+1<(pendingOf st).size){Q:Bool->SortSt->Prop}
  (h:∀ st',Rs κ r a0 lo st'->(pendingOf st').size+1=(pendingOf st).size->(∀ k,lo<=k->(arrOf st')[k]?=(arrOf st)[k]?)->Q true st'):wpS (model prog w) A E s (mergeAt' i) Q st:=by
 obtain⟨kd,fl,pm,rn,le⟩:=R;have sz:(arrOf st).size=a0.size:=pm.size_eq;have pl:=Zbe.mp pm;obtain⟨⟨sa,na,p1⟩,e1⟩:∃ x,(pendingOf st)[i]?=some x:=⟨_,ZaE (by lia)⟩
 obtain⟨⟨sb,nb,p2⟩,e2⟩:∃ x,(pendingOf st)[i+1]?=some x:=⟨_,ZaE hi⟩;have f1:(pendingOf st).toList[i]?=some (sa,na,p1):=by rw[ZaH];exact e1
 have f2:(pendingOf st).toList[i+1]?=some (sb,nb,p2):=by rw[ZaH];exact e2
 rw[Og f1 f2] at rn;obtain⟨k0,r1,q1,q2,q3,q4,q5,q6,r2⟩:=Rn.app.mp rn;have q1:sa=k0:=q1;subst q1;have q4:sb=sa+na:=q4;have q2:1<=na:=q2;have q5:1<=nb:=q5;have q3:gq r (arrOf st) sa (sa+na):=q3;have q6:gq r (arrOf st) (sa+na) (sa+na+nb):=q6;have r2:Rn r (arrOf st) (sa+na+nb) ((pendingOf st).toList.drop (i+2)) lo:=r2;have b1:=r1.le;have b2:=r2.le;subst q4;refine Ed hc kd fl e1 e2 rfl q2 q5 (by lia) (λx hx=>dm x (pl.mem_iff.mp hx)) (un.perm pl) ((uR (by lia)).mpr q3) ((uR (by lia)).mpr q6) λM arr' g eq pM sM=>?_
 have ll:(arrOf st).toList.length=(arrOf st).size:=by simp
 have ml:M.length=na+nb:=by rw[pM.length_eq,jC _ (by lia)];lia
 have tl:((arrOf st).toList.take sa).length=sa:=by simp;lia
 have low:∀ k,k<sa->arr'[k]?=(arrOf st)[k]?:=λk hk=>by
  rw[<-ZaH,eq,Zax,Zaj (by lia),List.getElem?_take,Zag hk,ZaH]
 have high:∀ k,sa+na+nb<=k->arr'[k]?=(arrOf st)[k]?:=λk hk=>by
  rw[<-ZaH,eq,Zau (by rw[List.length_append];lia),List.length_append,tl,ml,List.getElem?_drop,show sa+na+nb+(k-(sa+(na+nb)))=k by lia,ZaH]
 have ap:arr'.Perm (arrOf st):=by
  rw[Zbe,eq]
  conv=>rhs;rw[Vv (arrOf st).toList (show sa<=sa+na+nb by lia)]
  exact ZbV _ (Za2 _ pM)
 have az:arr'.size=(arrOf st).size:=ap.size_eq;have mid:gq r arr' sa (sa+(na+nb)):=by
  refine(uR (by lia)).mp ?_
  have:bG arr'.toList sa (sa+(na+nb))=M:=by
   unfold bG;rw[eq,List.take_append_of_le_length (by rw[List.length_append];lia),Zba (by rw[List.length_append];lia),List.drop_append_of_le_length (by lia),Zbj (by lia),List.nil_append]
  rw[this];exact sM
 have pe:(((pendingOf st).setIfInBounds i (sa,na+nb,p1)).eraseIdxIfInBounds (i+1)).toList=(pendingOf st).toList.take i++(sa,na+nb,p1)::(pendingOf st).toList.drop (i+2):=by
  rw[Array.toList_eraseIdxIfInBounds,Array.toList_setIfInBounds];exact KN f1 f2
 refine h _ ⟨rfl,rfl,ap.trans pm,?_,le⟩ ?_ λk hk=>high k (by lia)
 ·show Rn r arr' 0 (((pendingOf st).setIfInBounds i (sa,na+nb,p1)).eraseIdxIfInBounds (i+1)).toList lo
  rw[pe];refine Rn.app.mpr ⟨sa,r1.congr λk _ hk=>low k hk,rfl,by show 1<=na+nb;lia,mid,?_⟩
  show Rn r arr' (sa+(na+nb)) _ lo
  rw[show sa+(na+nb)=sa+na+nb by lia]
  exact r2.congr λk hk _=>high k hk
 ·show(((pendingOf st).setIfInBounds i (sa,na+nb,p1)).eraseIdxIfInBounds (i+1)).size+1=_
  rw[<-Za3,pe];have:(pendingOf st).toList.length=(pendingOf st).size:=by simp
  simp;lia
end
section
variable{prog:Program}{w:World}{A:Around}{E:Value->Shared->Prop}{s:Shared}{κ:SortKind}{D:Keyed->Prop}{r:Keyed->Nat}{st:SortSt}{a0:Array Keyed}
theorem Rn.mod{a:Array Keyed}{f:Pd->Pd}(hf:∀ x,(f x).1=x.1/\(f x).2.1=x.2.1):∀ {l:List Pd}{i s e:Nat},Rn r a s l e->Rn r a s (l.modify i f) e
 |[],_,_,_,h=>by simpa using h
 |x::l,0,s,e,⟨h1,h2,h3,h4⟩=>by
  rw[List.modify_zero_cons];exact⟨(hf x).1.trans h1,by rw[(hf x).2];exact h2,by rw[(hf x).2];exact h3,by rw[(hf x).2];exact h4⟩
 |x::l,i+1,s,e,⟨h1,h2,h3,h4⟩=>by
  rw[List.modify_succ_cons];exact⟨h1,h2,h3,Rn.mod hf h4⟩
theorem ww{M:Model}{lo n:Nat}(R:Rs κ r a0 lo st)(S:gq r (arrOf st) lo (lo+n))(n1:1<=n)(hz:lo+n<=a0.size){Q:ForInStep (Option Unit×Nat)->SortSt->Prop}(h:∀ st',Rs κ r a0 (lo+n) st'->Q (.yield (none,lo+n)) st'):wpS M A E s (oh lo n) Q st:=by
 unfold oh;refine Zaq (wpS_modify (Zav (h _ ⟨R.kd,R.fl,R.pm,?_,hz⟩)));show Rn r (arrOf st) 0 ((pendingOf st).push (lo,n,0)).toList (lo+n)
 rw[ZbB];exact Rn.app.mpr ⟨lo,R.rn,rfl,n1,S,rfl⟩
theorem Ho{pw lo n:Nat}(hc:Cmp prog w A s κ D r)(dm:∀ x∈a0.toList,D x)(un:Unl r a0.toList)(R:Rs κ r a0 lo st)(S:gq r (arrOf st) lo (lo+n)) :
  wpS (model prog w) A E s (rB pw) (λc st'=>(c=.done (none,())\/c=.yield (none,()))/\Rs κ r a0 lo st'/\gq r (arrOf st') lo (lo+n)) st:=by
 unfold rB;refine Zaq (wpS_get ?_);by_cases q:(pendingOf st).size>1
 ·rw[Zag q];cases (pendingOf st)[(pendingOf st).size-2]? with
  |none=>exact Zav ⟨.inl rfl,R,S⟩
  |some x=>
   dsimp only;split
   ·exact Zav ⟨.inl rfl,R,S⟩
   ·refine Zaq (Oh hc dm un R (by omega) λst' R' _ hk=>?_)
    rw[Zae (by decide)]
    exact Zav ⟨.inr rfl,R',S.congr λk g1 _=>hk k g1⟩
 ·rw[Zae q];exact Zav ⟨.inl rfl,R,S⟩
theorem Oi{z lo n:Nat}(hc:Cmp prog w A s κ D r)(dm:∀ x∈a0.toList,D x)(un:Unl r a0.toList)(R:Rs κ r a0 lo st)(S:gq r (arrOf st) lo (lo+n))(n1:1<=n)(hz:lo+n<=a0.size){Q:ForInStep (Option Unit×Nat)->SortSt->Prop}(h:∀ st',Rs κ r a0 (lo+n) st'->Q (.yield (none,lo+n)) st'):wpS (model prog w) A E s (lay z lo n) Q st:=by
 unfold lay;refine Zaq (wpS_get ?_);cases (pendingOf st).back? with
 |none=>exact ww R S n1 hz h
 |some x=>
  dsimp only;refine Zaq (Za0 (Za9 (I:=λ_ c st'=>c=(none,())/\Rs κ r a0 lo st'/\gq r (arrOf st') lo (lo+n)) (Q:=λc st'=>c=(none,())/\Rs κ r a0 lo st'/\gq r (arrOf st') lo (lo+n)) ?_ (λ_ _ g=>g) ⟨rfl,R,S⟩) ?_)
  ·rintro k c st' _ _ ⟨rfl,R',S'⟩;refine Za0 (Ho hc dm un R' S') λc st2 p=>?_;rcases p.1 with rfl|rfl
   ·exact⟨rfl,p.2⟩
   ·exact⟨rfl,p.2⟩
  ·rintro c st' ⟨rfl,R',S'⟩;dsimp only;refine Zaq (wpS_modify ?_);generalize hm:((pendingOf st').modify ((pendingOf st').size-1) λy=>(y.1,y.2.1,power' z (2*x.1+x.2.1) (2*x.1+x.2.1+x.2.1+n) z))=pm
   refine ww (st:=setPending st' pm) ⟨R'.kd,R'.fl,R'.pm,?_,R'.le⟩ S' n1 hz h;show Rn r (arrOf st') 0 pm.toList lo
   rw[<-hm,Array.toList_modify];exact Rn.mod (f:=λy=>(y.1,y.2.1,power' z (2*x.1+x.2.1) (2*x.1+x.2.1+x.2.1+n) z)) (λy=>⟨rfl,rfl⟩) R'.rn
theorem Hq{z lo:Nat}(hc:Cmp prog w A s κ D r)(dm:∀ x∈a0.toList,D x)(un:Unl r a0.toList)(hz:z=a0.size)(R:Rs κ r a0 lo st){c0:Option Unit} :
  wpS (model prog w) A E s (uT z (c0,lo)) (λc st'=>(c=.done (none,lo)/\lo=z/\st'=st)\/∃ lo',c=.yield (none,lo')/\lo<lo'/\Rs κ r a0 lo' st') st:=by
 have sz:(arrOf st).size=a0.size:=R.pm.size_eq;have le:=R.le;have pl:=Zbe.mp R.pm;unfold uT;dsimp only;by_cases q:lo>=z
 ·rw[Zag q];exact Zav (.inl ⟨rfl,by omega,rfl⟩)
 ·rw[Zae q];have low:∀ {a2:Array Keyed},a2.Perm (arrOf st)->(∀ k,k<lo->a2[k]?=(arrOf st)[k]?)->Rs κ r a0 lo (setArr st a2):=λ{a2} p2 pre=>⟨R.kd,R.fl,p2.trans R.pm,R.rn.congr λk _ hk=>pre k hk,R.le⟩;refine Zaq (wpS_countRun hc R.kd (λx hx=>dm x (pl.mem_iff.mp hx)) (un.perm pl) (by omega) (by omega) λn a2 n1 n2 p2 pre S=>?_)
  dsimp only;have R2:=low p2 pre;have pl2:=Zbe.mp (p2.trans R.pm);by_cases q2:n<minRun' z z 0
  ·rw[Zag q2];refine Zaq (j7 ?_);refine Zaq (wpS_binarySort (st:=setArr st a2) hc R.kd (λx hx=>dm x (pl2.mem_iff.mp hx)) (un.perm pl2) n1 (by omega) (by show _<=a2.size;rw[p2.size_eq];omega) S λa3 p3 pre3 S3=>?_)
   rw[Zae (by decide)]
   have R3:Rs κ r a0 lo (setArr (setArr st a2) a3):=⟨R.kd,R.fl,(show a3.Perm a2 from p3).trans (p2.trans R.pm),R.rn.congr λk _ hk=>(pre3 k hk).trans (pre k hk),R.le⟩;exact Oi hc dm un R3 S3 (by omega) (by omega) λst' R'=>.inr ⟨_,rfl,by omega,R'⟩
  ·rw[Zae q2];exact Oi hc dm un R2 S (by omega) (by omega) λst' R'=>.inr ⟨_,rfl,by omega,R'⟩
theorem wpS_sortRuns(hc:Cmp prog w A s κ D r)(hk:kindOf st=κ)(hf:failedOf st=none)(hp:pendingOf st=#[])(dm:∀ x∈(arrOf st).toList,D x)(un:Unl r (arrOf st).toList){Q:Unit->SortSt->Prop}
  (h:∀ st',(arrOf st').Perm (arrOf st)->failedOf st'=none->Srt r (arrOf st').toList->Q () st'):wpS (model prog w) A E s sortRuns' Q st:=by
 rw[Be];unfold tE;refine Zaq (wpS_get ?_);have R0:Rs κ r (arrOf st) 0 st:=⟨hk,hf,Array.Perm.refl _,by rw[hp];rfl,Zbb _⟩
 refine Zaq (Za0 (Za9 (I:=λk c st'=>∃ lo,c=(none,lo)/\Rs κ r (arrOf st) lo st'/\k<=lo) (Q:=λc st'=>c=(none,(arrOf st).size)/\Rs κ r (arrOf st) (arrOf st).size st') ?_ ?_ ⟨0,rfl,R0,Zai _⟩) ?_)
 ·rintro k c st' _ _ ⟨lo,rfl,R,hlo⟩;refine Za0 (Hq hc dm un rfl R) λc st2 p=>?_;rcases p with⟨rfl,rfl,rfl⟩|⟨lo',rfl,g,R'⟩
  ·exact⟨rfl,R⟩
  ·exact⟨lo',rfl,R',by lia⟩
 ·rintro c st' ⟨lo,rfl,R,hlo⟩;have:=R.le;have e:lo=(arrOf st).size:=by lia
  subst e;exact⟨rfl,R⟩
 ·rintro c st' ⟨rfl,R⟩;dsimp only;have pz:∀ {st2:SortSt},Rs κ r (arrOf st) (arrOf st).size st2->(pendingOf st2).size<=(arrOf st).size:=λR2=>by
   have:=R2.rn.le;simp at this;exact this
  refine Zaq (Za0 (Za9 (I:=λk c st2=>c=(none,())/\Rs κ r (arrOf st) (arrOf st).size st2/\((pendingOf st2).size+k<=(arrOf st).size\/(pendingOf st2).size<=1)) (Q:=λc st2=>c=(none,())/\Rs κ r (arrOf st) (arrOf st).size st2/\(pendingOf st2).size<=1) ?_ ?_ ⟨rfl,R,.inl (by have:=pz R;lia)⟩) ?_)
  ·rintro k c st2 _ _ ⟨rfl,R2,hs⟩;unfold Jg;refine Zaq (wpS_get ?_);by_cases q:(pendingOf st2).size<=1
   ·rw[Zag q];exact Zav ⟨rfl,R2,q⟩
   ·rw[Zae q];refine Zaq (Oh hc dm un R2 ?_ λst3 R3 e3 _=>?_)
    ·have:Oe st2<=(pendingOf st2).size-2:=by
      unfold Oe;generalize (if(pendingOf st2).size-2>0 then Option.map (λx:Pd=>x.2.1) (pendingOf st2)[(pendingOf st2).size-2-1]? else none)=o
      split<;>lia
     lia
    ·rw[Zae (by decide)]
     exact Zav ⟨rfl,R3,.inl (by lia)⟩
  ·rintro c st2 ⟨rfl,R2,hs⟩;exact⟨rfl,R2,by lia⟩
  ·rintro c st2 ⟨rfl,R2,hs⟩;refine Zav (h st2 R2.pm R2.fl ?_);have sz:(arrOf st2).size=(arrOf st).size:=R2.pm.size_eq;have all:gq r (arrOf st2) 0 (arrOf st2).size:=by
    have rn:=R2.rn;have pl:(pendingOf st2).toList.length<=1:=by simpa using hs
    match hq:(pendingOf st2).toList,pl with
    |[],_=>
     rw[hq] at rn;have rn:0=(arrOf st).size:=rn;intro p q _ _ h3;lia
    |[x],_=>
     rw[hq] at rn;obtain⟨_,_,g3,g4⟩:=rn;have g4:0+x.2.1=(arrOf st).size:=g4;rw[g4,<-sz] at g3;exact g3
   have:=(uR (r:=r) (a:=arrOf st2) (i:=0) (Zai _)).mpr all;unfold bG at this;rw[Zbo,Zba (by simp)] at this
   exact this
end
end L2.TS
namespace L2
open PySem PySem.Spec PyProof PyProof.Rows
section
variable{K:Type}[DecidableEq K]{prog:Program}{w:World}{knd:HeapKind prog w K}{A:Around}{E:Value->Shared->Prop}{s:Shared}{d a:Addr}{k:K}{xs:List (K×Addr×Value)}
theorem Ef{dflt:Value}{Q:Value->Shared->Prop}(hu:knd.room A)(hkey:knd.is s.heap k a)(hm:s.heap.DictOfH knd d xs)(hsz:xs.length<=sizeLine)
  (h1:∀ p,atKey xs k=some p->Q p.2 { s with toks:=s.toks+knd.draws k })
  (h2:atKey xs k=none->∀ h',h'.DictOfH knd d (storedH xs k a dflt)->Heap.SameBut d s.heap h'->Q dflt { s with heap:=h',toks:=s.toks+knd.draws k }) :
  wpAny (model prog w) A (dictSetDefault d (.ref a) dflt) Q E s:=by
 obtain⟨o,es,ep,ho,hc,hd,he,his,hn⟩:=hm;unfold dictSetDefault
 try with_reducible refine wpAny_holding ?_
 refine Zaa (knd.pyHash hu hkey ?_);refine Zaa (wpAny_dictFind_heap (s:={ s with toks:=s.toks+knd.draws k }) hu hkey ho hd he his hn ?_ ?_)
 ·intro hno;have hnot:k ∉ xs.map (·.1):=not_mem_keys_of_get hno;refine Zaa (wpAny_rule (Zaa (wpAny_updateDictKeys (hz:=by have e:=size_of_entries he;lia) (s:={ s with toks:=s.toks+knd.draws k }) ho hd (Zaf (h2 (atKey_none_of_get hno) _ ⟨_,_,ep+1,ZbJ _ ho (Obj.isFreed_of_dict (Obj.data_mapDictKeys hd _)),
   hc.mapDictKeys _,Obj.data_mapDictKeys hd _,?_,?_,?_⟩ (ZbF ..))))))
  ·rw[storedH_new (atKey_none_of_get hno)];simp[he,entryOfKey]
  ·rw[storedH_new (atKey_none_of_get hno)];intro x hx;rcases Zah.mp hx with hx|hx
   ·exact knd.keeps (his x hx) ho hd (ZbF ..)
   ·simp only[ZaK] at hx;subst hx;exact knd.keeps hkey ho hd (ZbF ..)
  ·rw[storedH_new (atKey_none_of_get hno)];rw[Zbc,ZbC];refine⟨hn,by simp,?_⟩
   intro x hx y hy;simp only[Zan,List.map_nil,ZaK] at hy;subst hy;exact λe=>hnot (e▸hx)
 ·intro j p hj;refine Zaa (wpAny_dictEntries (s:={ s with toks:=s.toks+knd.draws k }) ho hd ?_);rw[entry_at he j,hj];exact Zaa (wpAny_rule (Zaf (h1 p (atKey_of_get hn hj))))
theorem lE(hd:(d==sysModules)=false)(dflt:Value):MeetsIn prog w (Builtin.«dict.setdefault» ⟨[.ref d,.ref a,dflt],[]⟩) (λA R s=>knd.room A.in1/\∃ k xs,knd.is s.heap k a/\s.heap.DictOfH knd d xs/\xs.length<=sizeLine /\
   (∀ p,atKey xs k=some p->R (.ok (.ret p.2)) { s with toks:=s.toks+knd.draws k }) /\
   (atKey xs k=none->∀ h',h'.DictOfH knd d (storedH xs k a dflt)->Heap.SameBut d s.heap h'->R (.ok (.ret dflt)) { s with heap:=h',toks:=s.toks+knd.draws k })):=
 .of_wp λA R s ⟨hu,k,xs,hkey,hm,hsz,h1,h2⟩=>by
  unfold Builtin.«dict.setdefault»;refine Zaa ?_;unfold Builtin.Dict.keyAndDefault;refine Zaa (wpAny_notOrdered_dict hm.typeIs ?_);show wpAny _ _ (pure (d,Value.ref a,some dflt)) _ _ s
  refine Zaf ?_;show wpAny _ _ (if(d==sysModules)=true then _ else(dictSetDefault d (.ref a) dflt>>=_)) _ _ s
  rw[Zae (by rw[hd];exact Zbf)]
  exact Zaa (Ef hu hkey hm hsz (λp hp=>Zaf ⟨p.2,rfl,h1 p hp⟩) λhn h' hm' hs'=>Zaf ⟨dflt,rfl,h2 hn h' hm' hs'⟩)
end
section
variable{X:Cx}{pins:List (Addr×Obj)}{σ:St}{H:Hp}{s:Shared}{a b:Addr}{kvs:List (List Key×V)}{k:List Key}{z:V}{r:Value}{A:Around}{E:Value->Shared->Prop}
theorem KQ{Q:Value->Shared->Prop}(hu:A.units+1<cLine)(I:Inv X pins σ H s)(e:H a=some (.dT kvs))(eb:H b=some (.tup (k.map kV)))(hl:kvs.length<sizeLine)(rz:RelV z r)
  (h1:∀ v,iD kvs k=some v->∀ w' s',Inv X pins σ H s'->RelV v w'->Q w' s')
  (h2:iD kvs k=none->∀ s',Inv X pins σ (upd H a (.dT (putK kvs k z))) s'->Q r s'):wpAny (model X.prog X.w) A (call (.builtin "dict.setdefault") [.ref a,.ref b,r]) Q E s:=by
 obtain⟨zz,hd,xs,rel,dd⟩:=Mt I.hok e;have hz:xs.length<=sizeLine:=by rw[<-Paired.length rel];exact zz
 have hl2:(putK kvs k z).length<=sizeLine:=by have:=gY kvs k z;lia
 have rv:=rel.val k;refine call_meetsIn PySem.F.slot_dict_setdefault dd.typeIs PySem.F.entry_dict_setdefault (PySem.F.args_dict_setdefault_3 _ _ _) (lE (knd:=tupleKind (cG X.prog X.w)) hd r)
  ⟨tupleKind_room_in1 hu,k,xs,mK I.hok eb,dd,hz,λp hp=>?_,λhn h' dd' hs=>?_⟩
 ·rw[hp] at rv;cases e2:iD kvs k with
  |none=>rw[e2] at rv;exact rv.elim
  |some v'=>rw[e2] at rv;exact h1 v' e2 p.2 _ (I.tok _) rv
 ·rw[hn] at rv;have hn':iD kvs k=none:=by
   cases e2:iD kvs k with
   |none=>rfl
   |some v'=>rw[e2] at rv;exact rv.elim
  obtain⟨q,es,ep,hq,g2,g3,g4,_,g5⟩:=dd';refine h2 hn' _ (qH I (by rw[e];exact True.intro) hs ⟨q,hq⟩ ⟨hl2,hd,_,(rel.put k eb rz).keeps λc ys ec=>?_,q,es,ep,hq,g2,g3,g4,g5⟩)
  rw[aq (Lz ec e (λz=>nomatch z))];exact ec
end
def Eg(td ty tz:TE):TE:=λσ H Q=>td σ H λx H1=>∃ a,x=.ref a/\IsD H1 a/\ty σ H1 λy H2=>tz σ H2 λz H3=>∃ kvs k b,H3 a=some (.dT kvs)/\y=.ref b/\H3 b=some (.tup (k.map kV))/\kvs.length<sizeLine /\
 (∀ v,iD kvs k=some v->Q v H3)/\(iD kvs k=none->Q z (upd H3 a (.dT (putK kvs k z))))
section
variable{X:Cx}{o e f:Expr}{apos cpos:Pos}{td ty tz:TE}
theorem Hr(hu:X.A.units+1<cLine)(ho:PE X o td)(he:PE X e ty)(hf:PE X f tz)(m:M2 X o "setdefault" apos e f cpos):PE X (.Call (.Attribute o "setdefault" apos) [e,f] [] cpos) (Eg td ty tz):=by
 intro pins s σ H Q I h;refine wpAny_Call_method m.base m.few m.line PySem.F.plainAttrs_dict PySem.F.slot_dict_setdefault PySem.F.type_dict_setdefault (thn (ho pins s σ H _ I h) ?_);rintro u s1 ⟨x,H1,I1,rx,a,ex,d,q1⟩;subst ex;obtain rfl:u=Value.ref a:=rx;obtain⟨t1,t2,_⟩:=GJ I1 d;refine⟨t1,t2,?_⟩;rw[m.trees];refine Calls.callWith_builtin rfl (Calls.evalArgs_plain (Calls.spliced_cons (thn (he pins s1 σ H1 _ I1 q1) λiv s2 ⟨y,H2,I2,ry,q2⟩=>
  Calls.spliced_cons (thn (hf pins s2 σ H2 _ I2 q2) λfv s3 ⟨z,H3,I3,rz,kvs,k,b,ea,ey,eb,hl,c1,c2⟩=>Calls.spliced_nil ?_))))
 subst ey;obtain rfl:iv=Value.ref b:=ry;exact KQ hu I3 ea eb hl rz (λv hv w' s' I' r'=>⟨v,H3,I',r',c1 v hv⟩) λhn s' I'=>⟨z,_,I',rz,c2 hn⟩
end
namespace MP
section
variable{K:PySem.W.Frag}{C:Cg}{te tb:TE}{F F1 F2 H H1 H2:Hp}{σ:St}{ρ:Rho}{D:Ends}{S:Addr->Prop}{v:V}{p:PV}
theorem Dp.Bf{l:List (List Key×PV)}(d:Dp K F H S v (.dt l)):∃ (T:Nat->Addr->Prop) (a:Addr) (xs:List (List Key×V)),v=.ref a/\H a=some (.dT xs)/\S a/\(∀ j b,T j b->S b/\b≠a)/\(∀ i j b,T i b->T j b->i=j)/\xs.map (·.1)=l.map (·.1)/\∀ (j:Nat) x p,xs[j]?=some x->l[j]?=some p->Dp K F H (T j) x.2 p.2:=by
 cases d with
 |fr r st=>cases st
 |dt h hp hs dj hl hr=>exact⟨_,_,_,rfl,h,hp,hs,dj,hl,hr⟩
def rC(i:Nat)(fk fe:Fn PV):Sn:=λρ=>match Ay i ρ with
 |some (.dt l)=>if l.length<sizeLine then fP (fk ρ) λkp=>match kp with
  |.tup ks=>match dY ks with
   |some k=>match(cQ l k).getD (.lst []) with
    |.lst row=>fP (fe (ρ.set i (some (.dp (.dt (bM l k (.lst row))))))) λq=>if q.still=true/\row.length<sizeLine then some (.nx (ρ.set i (some (.dp (.dt (bM l k (.lst (row++[q]))))))))
     else none
    |_=>none
   |none=>none
  |_=>none else none
 |_=>none
theorem Jh{κ:Type}[DecidableEq κ]{k:κ}{p q:PV}:∀ {l:List (κ×PV)},bM (bM l k p) k q=bM l k q
 |[]=>by simp[bM]
 |(a,r)::l=>by
  by_cases h:a=k
  ·simp[bM,h]
  ·simp[bM,h,Jh (l:=l)]
theorem Oj{κ:Type}[DecidableEq κ]{k:κ}{p:PV}:∀ {l:List (κ×PV)},cQ (bM l k p) k=some p
 |[]=>by simp[bM,cQ]
 |(a,r)::l=>by
  by_cases h:a=k
  ·simp[bM,cQ,h]
  ·simp[bM,cQ,h,Oj (l:=l)]
theorem Eh{κ:Type}[DecidableEq κ]{k:κ}{p:PV}:∀ {l:List (κ×PV)},cQ l k=some p->bM l k p=l
 |[],e=>by cases e
 |(a,r)::l,e=>by
  unfold cQ at e;by_cases h:a=k
  ·rw[Zag h] at e;cases e;simp[bM,h]
  ·rw[Zae h] at e;simp[bM,h,Eh e]
theorem zb{i:Nat}{l:List (List Key×PV)}{k:List Key}{row:List PV}{q:PV}{P:Nat->Addr->Prop}{a b:Addr}{xs:List (List Key×V)}{w:V}(R:RE K C.toCf F H σ ρ)(d:RD K C.toCf F H σ ρ P)(ei:ρ[i]?=some (some (.dp (.dt l))))(es:σ[i]?=some (some (.ref a)))(ha:H a=some (.dT xs))(hv:iD xs k=some (.ref b))(hp:cQ l k=some (.lst row))(rep:Rep K F w q)(st:q.still=true) :
  ∃ ys,H b=some (.lst ys)/\ys.length=row.length/\RE K C.toCf F (upd H b (.lst (ys++[w]))) σ (ρ.set i (some (.dp (.dt (bM l k (.lst (row++[q]))))))):=by
 obtain⟨v,e1,dp⟩:=d.dp i _ ei;rw[es] at e1;cases e1;obtain⟨T,a',xs',ea,ha',Pa,hT,dj,hkeys,hch⟩:=dp.Bf;cases ea;rw[ha] at ha';cases ha';obtain⟨j,w',lj,xj,hvw,hput⟩:=n6 hkeys hp;rw[hv] at hvw;cases hvw;obtain⟨T2,b',ys,eb,hb,sb,ht2,ds2⟩:=(hch j _ _ xj lj).bZ;have eb:V.ref b=.ref b':=eb;cases eb;have nab:a≠b:=λz=>(hT j b sb).2 z.symm;have nt:∀ c zs,H c=some (.tup zs)->upd H b (.lst (ys++[w])) c=some (.tup zs):=λc zs z=>by
  rw[aq (λy=>by subst y;rw[hb] at z;cases z)];exact z
 refine⟨ys,hb,ds2.1,?_⟩;refine R.NB d ei es (hT j b sb).1 (λzs z=>by cases z) (S':=P i) (.dt (S:=T) (xs:=xs) (by rw[aq nab];exact ha) Pa hT dj (by rw[hput,N6 lj];exact hkeys) λm x r h1 h2=>?_) λc z=>.inl z
 rw[hput] at h2;rcases get_set h2 with⟨f1,f2⟩|⟨f1,f2⟩
 ·subst f1;subst f2;rw[xj] at h1;cases h1;exact Dp.snoc hb sb ht2 ds2 rep st
 ·exact(hch m x r h1 f2).up (aP.refl _) (λc o z y=>by rw[aq (λe=>by subst e;exact f1 (dj j m c sb z))];exact y) nt
theorem KR{i:Nat}{fk fe:Fn PV}(hk:MJ K C (aF K) tb fk)(he:MJ K C (aF K) te fe) :
  MS K C (yu (tBM K "list" Aa (Eg (iZ i) tb (Uz vh)) (jd te vh))) (rC i fk fe):=by
 intro F H σ ρ D o R e Pq;unfold rC at e;split at e
 case h_2=>cases e
 rename_i l hl;split at e
 case isFalse=>cases e
 rename_i hlen;obtain⟨P0,d0⟩:=R.dd;obtain⟨v0,e0,dp0⟩:=d0.dp i _ (gU hl);obtain⟨_,a,xs0,rfl,ha0,_⟩:=dp0.Bf;refine⟨_,e0,a,rfl,.inr ⟨xs0,.inl ha0⟩,?_⟩;rcases b7 e with⟨z,e1,rfl⟩|⟨kp,e1,hk1⟩
 ·exact hk F H σ ρ _ _ R e1 Pq
 refine hk F H σ ρ _ _ R e1 λy F1 H1 u ry=>?_;split at hk1
 case h_2=>cases hk1
 rename_i ks;split at hk1
 case h_2=>cases hk1
 rename_i k hkk;split at hk1
 case h_2=>cases hk1
 rename_i row hrow;obtain⟨bk,zs,rfl,hbk,rr⟩:=Rep.qI ry;cases nZ hkk rr;refine⟨Zbb _,λn hn=>?_⟩;have u1:Up F1 H1 F1 (upd H1 n (.lst [])):=Up.GQ u.fh hn;have RA:=R.up u;obtain⟨P1,dA⟩:=RA.dd;have R1:=RA.up u1;have d1:=dA.up u1;obtain⟨v1,e1',dp1⟩:=d1.dp i _ (gU hl);rw[e0] at e1';cases e1';obtain⟨T,a',xs,ea,ha,Pa,hT,dj,hkeys,hch⟩:=dp1.Bf;cases ea;have lx:xs.length=l.length:=by have:=Zbd List.length hkeys;simpa using this
 have hbk2:=u1.fh _ _ hbk;refine⟨xs,k,bk,ha,rfl,hbk2,by rw[lx];exact hlen,λv hv=>?_,λhv=>?_⟩
 ·cases hvl:cQ l k with
  |none=>rw[(v8 hkeys hvl).1] at hv;cases hv
  |some q0=>
   rw[hvl] at hrow;have hrow:q0=.lst row:=hrow;subst hrow;rw[Eh hvl,DN (gU hl)] at hk1;obtain⟨j,w',lj,xj,hvw,_⟩:=n6 hkeys hvl;rw[hv] at hvw;cases hvw;obtain⟨T2,b,ys,eb,hb,sb,_,_⟩:=(hch j _ _ xj lj).bZ;have eb:v=.ref b:=eb;subst eb;refine⟨tyL hb,?_⟩;rcases b7 hk1 with⟨z,e2,rfl⟩|⟨q,e2,hk2⟩
   ·exact he F1 _ σ ρ _ _ R1 e2 (PX.up Pq (u.trans u1).ff)
   split at hk2
   case isFalse=>cases hk2
   rename_i hq;cases hk2;refine he F1 _ σ ρ _ _ R1 e2 λw F2 H2 u2 rep=>?_;obtain⟨ys2,hb2,yl,RR⟩:=zb (R1.up u2) (d1.up u2) (gU hl) e0 (u2.hh _ _ ha) hv hvl rep hq.1;exact⟨b,ys2,w,rfl,rfl,hb2,by rw[yl];exact hq.2,Pq F2 _ σ ((u.trans u1).trans u2).ff RR⟩
 ·cases hvl:cQ l k with
  |some q0=>
   obtain⟨j,w',_,_,hvw,_⟩:=n6 hkeys hvl;rw[hv] at hvw;cases hvw
  |none=>
   rw[hvl] at hrow;have hrow:row=[]:=by
    have:PV.lst []=.lst row:=hrow;cases this;rfl
   subst hrow;have hput:=(v8 hkeys hvl).2;rw[Ms _ hv];have hn2:upd H1 n (.lst []) n=some (.lst []):=au;have inP:∀ j x,P1 j x->x≠n:=λj x z y=>by
    subst y;obtain⟨_,⟨o,k2,_⟩,_⟩:=dA.own j x z;rw[hn] at k2;cases k2
   have nna:n≠a:=λz=>inP i a Pa z.symm;have il:=cz (gU hl);have R3:RE K C.toCf F1 (upd (upd H1 n (.lst [])) a (.dT (xs++[(k,.ref n)]))) σ (ρ.set i (some (.dp (.dt (bM l k (.lst [])))))):=by
    refine R1.NB d1 (gU hl) e0 Pa (λzs z=>by cases z) (S':=λc=>P1 i c\/c=n) ?_ λc z=>?_
    ·rw[hput];refine .dt (S:=λm x=>(m<xs.length/\T m x)\/(m=xs.length/\x=n)) (xs:=xs++[(k,.ref n)]) au (.inl Pa) (λm x z=>?_) (λm m' x z z'=>?_) (by simp[hkeys]) λm x r h1 h2=>?_
     ·rcases z with⟨_,z⟩|⟨_,z⟩
      ·exact⟨.inl (hT m x z).1,(hT m x z).2⟩
      ·exact⟨.inr z,by rw[z];exact nna⟩
     ·rcases z with⟨q,z⟩|⟨q,z⟩<;>rcases z' with⟨q',z'⟩|⟨q',z'⟩
      ·exact dj m m' x z z'
      ·exact absurd z' (inP i x (hT m x z).1)
      ·exact absurd z (inP i x (hT m' x z').1)
      ·rw[q,q']
     ·by_cases hm:m<xs.length
      ·rw[Zaj hm] at h1;rw[Zaj (by lia)] at h2
       exact((hch m x r h1 h2).up (aP.refl _) (λc o z y=>by rw[aq (hT m c z).2];exact y) λc zs z=>by rw[aq (λy=>by subst y;rw[ha] at z;cases z)];exact z).mono λc z=>.inl ⟨hm,z⟩
      ·have em:m=xs.length:=by
        have:=cz h1;simp at this;lia
       subst em;rw[Zau (Zai _),Nat.sub_self] at h1;rw[lx,Zau (Zai _),Nat.sub_self] at h2;cases h1;cases h2;exact .lst (S:=λ_ _=>False) (by rw[aq nna];exact hn2) (.inr ⟨rfl,rfl⟩) (λ_ _ q=>q.elim) (λ_ _ _ q=>q.elim) rfl λj x p e1=>by simp at e1
    ·rcases z with z|z
     ·exact .inl z
     ·subst z;exact .inr ⟨u.fh.free hn,⟨_,hn2,λys q=>by cases q⟩,(d1.own i a Pa).2.2.1,RA.rb.t7 hn,λj z=>inP j c z rfl,λj q f=>RA.apart hn j q f⟩
   have hn3:upd (upd H1 n (.lst [])) a (.dT (xs++[(k,.ref n)])) n=some (.lst []):=by rw[aq nna];exact hn2
   refine⟨tyL hn3,?_⟩;rcases b7 hk1 with⟨z,e2,rfl⟩|⟨q,e2,hk2⟩
   ·exact he F1 _ σ _ _ _ R3 e2 (PX.up Pq u.ff)
   split at hk2
   case isFalse=>cases hk2
   rename_i hq;cases hk2;refine he F1 _ σ _ _ _ R3 e2 λw F2 H2 u2 rep=>?_;obtain⟨P3,d3⟩:=R3.dd;have ei:(ρ.set i (some (.dp (.dt (bM l k (.lst []))))))[i]?=some (some (.dp (.dt (bM l k (.lst []))))):=by rw[List.getElem?_set,Zag rfl,Zag il]
   have hvn:iD (xs++[(k,V.ref n)]) k=some (.ref n):=by
    unfold iD at hv ⊢;rw[Option.map_eq_none_iff] at hv;rw[List.find?_append,hv];simp
   obtain⟨ys2,hb2,yl,RR⟩:=zb (R3.up u2) (d3.up u2) ei e0 (u2.hh _ _ au) hvn Oj rep hq.1;rw[N5,Jh] at RR;exact⟨n,ys2,w,rfl,rfl,hb2,by rw[yl];exact hq.2,Pq F2 _ σ (u.ff.trans u2.ff) RR⟩
end
end MP
open PySem PySem.Spec PySem.W PyProof PyProof.Rows
noncomputable abbrev Sk:=Str×List Int
def ltI:List Int->List Int->Bool
 |a::l,b::m=>if a=b then ltI l m else decide (a<b)
 |_,_=>false
def iG(p q:Sk):Bool:=if p.1=q.1 then ltI p.2 q.2 else decide (p.1.cps.toList<q.1.cps.toList)
theorem wy:∀ l,ltI l l=false
 |[]=>rfl
 |a::l=>by unfold ltI;rw[Zag rfl];exact wy l
theorem zc:∀ {l m n:List Int},ltI l m=true->ltI m n=true->ltI l n=true
 |a::l,b::m,c::n,h1,h2=>by
  unfold ltI at h1 h2 ⊢;by_cases e1:a=b
  ·rw[Zag e1] at h1;by_cases e2:b=c
   ·rw[Zag e2] at h2;rw[Zag (e1.trans e2)];exact zc h1 h2
   ·rw[Zae e2] at h2;rw[Zae (λz=>e2 (e1.symm.trans z)),e1];exact h2
  ·rw[Zae e1] at h1;have h1:=of_decide_eq_true h1;by_cases e2:b=c
   ·rw[Zae (λz=>e1 (z.trans e2.symm)),<-e2];exact ZaB h1
   ·rw[Zae e2] at h2;have h2:=of_decide_eq_true h2;rw[Zae (by omega)]
    exact ZaB (by omega)
 |[],_,_,h1,_=>by cases h1
 |_::_,[],_,h1,_=>by cases h1
 |_::_,_::_,[],_,h2=>by cases h2
theorem zf:∀ {l m:List Int},l.length=m.length->l≠m->ltI l m=true\/ltI m l=true
 |[],[],_,h=>absurd rfl h
 |a::l,b::m,hl,h=>by
  unfold ltI;by_cases e:a=b
  ·subst e;rw[Zag rfl,Zag rfl];exact zf (by simpa using hl) λz=>h (by rw[z])
  ·rw[Zae e,Zae (ZaX e)];rcases Int.lt_or_gt_of_ne e with q|q
   ·exact .inl (ZaB q)
   ·exact .inr (ZaB q)
theorem Vw{a b:Str}(h:a≠b):a.cps.toList≠b.cps.toList:=λe=>h (by
 cases a;cases b;simp only[Str.mk.injEq];exact Array.toList_inj.mp e)
theorem Ei(p:Sk):iG p p=false:=by unfold iG;rw[Zag rfl];exact wy _
theorem Hs{p q t:Sk}(h1:iG p q=true)(h2:iG q t=true):iG p t=true:=by
 unfold iG at h1 h2 ⊢;by_cases e1:p.1=q.1
 ·rw[Zag e1] at h1;by_cases e2:q.1=t.1
  ·rw[Zag e2] at h2;rw[Zag (e1.trans e2)];exact zc h1 h2
  ·rw[Zae e2] at h2;rw[Zae (λz=>e2 (e1.symm.trans z)),e1];exact h2
 ·rw[Zae e1] at h1;have h1:=of_decide_eq_true h1;by_cases e2:q.1=t.1
  ·rw[Zae (λz=>e1 (z.trans e2.symm)),<-e2];exact ZaB h1
  ·rw[Zae e2] at h2;have h2:=of_decide_eq_true h2;have h3:=List.lt_trans h1 h2;rw[Zae (λz=>by rw[z] at h3;exact List.lt_irrefl _ h3)]
   exact ZaB h3
theorem wz{p q:Sk}(hl:p.2.length=q.2.length)(h:p≠q):iG p q=true\/iG q p=true:=by
 unfold iG;by_cases e:p.1=q.1
 ·rw[Zag e,Zag e.symm];exact zf hl λz=>h (Prod.ext e z)
 ·rw[Zae e,Zae (ZaX e)];by_cases q1:p.1.cps.toList<q.1.cps.toList
  ·exact .inl (ZaB q1)
  ·refine .inr (ZaB ?_);by_cases q2:q.1.cps.toList<p.1.cps.toList
   ·exact q2
   ·exact absurd (List.le_antisymm (List.not_lt.mp q2) (List.not_lt.mp q1)) (Vw e)
def rkS(ps:List Sk)(i:Nat):Nat:=((List.range ps.length).filter λj=>iG (ps.getD j default) (ps.getD i default)).length
structure pU(ps:List Sk)(m:Nat):Prop where
 nd:ps.Nodup
 ln:∀ p∈ps,p.2.length=m
section
variable{ps:List Sk}{m:Nat}
theorem tG{i:Nat}(h:i<ps.length):ps.getD i default∈ps:=Zal (i:=i) (by rw[List.getD_eq_getElem?_getD,List.getElem?_eq_getElem h];rfl)
theorem pU.inj(o:pU ps m){i j:Nat}(hi:i<ps.length)(hj:j<ps.length)(e:ps.getD i default=ps.getD j default):i=j:=by
 have g:∀ i,i<ps.length->ps[i]?=some (ps.getD i default):=λi h=>by rw[List.getD_eq_getElem?_getD,List.getElem?_eq_getElem h];rfl
 exact(List.getElem?_inj hi o.nd).mp (by rw[g i hi,g j hj,e])
theorem Ji{i j:Nat}(hi:i<ps.length)(h:iG (ps.getD i default) (ps.getD j default)=true):rkS ps i<rkS ps j:=by
 unfold rkS;have sub:((List.range ps.length).filter λk=>iG (ps.getD k default) (ps.getD i default)).Sublist ((List.range ps.length).filter λk=>iG (ps.getD k default) (ps.getD j default)):=by
  have e:((List.range ps.length).filter λk=>iG (ps.getD k default) (ps.getD i default))=((List.range ps.length).filter λk=>iG (ps.getD k default) (ps.getD j default)).filter λk=>iG (ps.getD k default) (ps.getD i default):=by
   rw[List.filter_filter];refine List.filter_congr λk _=>?_;cases q:iG (ps.getD k default) (ps.getD i default) with
   |false=>rfl
   |true=>rw[Hs q h];rfl
  rw[e];exact ZbG
 refine Nat.lt_of_le_of_ne sub.length_le λe=>?_;have e:=sub.eq_of_length e;have:i∈(List.range ps.length).filter λk=>iG (ps.getD k default) (ps.getD j default):=ZaG.mpr ⟨ZaA.mpr hi,h⟩;rw[<-e] at this;have:=(ZaG.mp this).2;rw[Ei] at this;cases this
theorem pU.lt(o:pU ps m){i j:Nat}(hi:i<ps.length)(hj:j<ps.length):iG (ps.getD i default) (ps.getD j default)=decide (rkS ps i<rkS ps j):=by
 cases q:iG (ps.getD i default) (ps.getD j default) with
 |true=>exact(ZaB (Ji hi q)).symm
 |false=>
  refine(ZaC λz=>?_).symm;by_cases e:ps.getD i default=ps.getD j default
  ·rw[o.inj hi hj e] at z;omega
  ·rcases wz (by rw[o.ln _ (tG hi),o.ln _ (tG hj)]) e with w|w
   ·rw[q] at w;cases w
   ·have:=Ji hj w;omega
theorem pU.Xa(o:pU ps m){i j:Nat}(hi:i<ps.length)(hj:j<ps.length)(e:rkS ps i=rkS ps j):i=j:=by
 refine o.inj hi hj (Classical.byContradiction λne=>?_);rcases wz (by rw[o.ln _ (tG hi),o.ln _ (tG hj)]) ne with w|w
 ·have:=Ji hi w;omega
 ·have:=Ji hj w;omega
def fH(ps:List Sk):List Nat:=(List.range ps.length).mergeSort λi j=>decide (rkS ps i<=rkS ps j)
theorem j8(ps:List Sk):(fH ps).Perm (List.range ps.length):=List.mergeSort_perm _ _
theorem rD:∀ i∈fH ps,i<ps.length:=λi hi=>ZaA.mp ((j8 ps).mem_iff.mp hi)
theorem Ol(ps:List Sk):(fH ps).length=ps.length:=by rw[(j8 ps).length_eq,List.length_range]
theorem pU.ord(o:pU ps m):(fH ps).Pairwise λi j=>rkS ps i<rkS ps j:=by
 have h:=List.pairwise_mergeSort (le:=λi j=>decide (rkS ps i<=rkS ps j)) (λa b c h1 h2=>by simp at h1 h2 ⊢;lia) (λa b=>by simp;lia) (List.range ps.length)
 have nd:(fH ps).Nodup:=(j8 ps).nodup_iff.mpr ZbS;refine(h.and nd).imp_of_mem λ{i j} hi hj q=>?_;have h1:rkS ps i<=rkS ps j:=by simpa using q.1
 exact Nat.lt_of_le_of_ne h1 λe=>q.2 (o.Xa (rD i hi) (rD j hj) e)
theorem pU.RN(o:pU ps m){l:List Nat}(p:l.Perm (List.range ps.length))(s:l.Pairwise λi j=>rkS ps i<rkS ps j):l=fH ps:=
 List.Perm.eq_of_pairwise (le:=λi j=>rkS ps i<rkS ps j) (λi j _ _ h1 h2=>by lia) s o.ord (p.trans (j8 ps).symm)
end
open PySem PySem.Spec PySem.W PyProof PyProof.Rows
def mD(h:Heap)(v:Value)(p:Sk):Prop:=∃ a o t ys n,v=.ref a/\h.get? a=some o/\o.cls=.type "tuple"/\o.data=.seq (List.toArray (.str p.1 t::ys)) n/\IntsAre ys p.2
theorem zg:∀ {ys:List Value}{ns ms:List Int},IntsAre ys ns->IntsAre ys ms->ns=ms
 |_,_,_,.nil,.nil=>rfl
 |_,_,_,.cons n _ h1,.cons _ _ h2=>by rw[zg h1 h2]
section
variable{prog:Program}{w:World}{A:Around}{E:Value->Shared->Prop}{s:Shared}{v u:Value}{p q:Sk}
theorem mD.same{h h':Heap}(x:mD h v p)(k:∀ a o,v=.ref a->h.get? a=some o->h'.get? a=some o):mD h' v p:=by
 obtain⟨a,o,t,ys,n,e,h1,h2⟩:=x;exact⟨a,o,t,ys,n,e,k a o e h1,h2⟩
theorem mD.RN{h:Heap}(x:mD h v p)(y:mD h v q):p=q:=by
 obtain⟨a,o,t,ys,n,rfl,h1,_,h3,h4⟩:=x;obtain⟨a',o',t',ys',n',e,g1,_,g3,g4⟩:=y;cases e;rw[h1] at g1;cases g1;rw[h3] at g3;injection g3 with e1 _
 have e1:=Zbd Array.toList e1;simp only at e1;injection e1 with e2 e3
 injection e2 with e4 _
 subst e3;exact Prod.ext e4 (zg h4 g4)
theorem Ej{Q:Bool->Shared->Prop}:∀ {ys zs:List Value}{ns ms:List Int} (i:Nat),IntsAre ys ns->IntsAre zs ms->ns.length=ms.length->Q (ltI ns ms) s->KatLex prog w A true false Q (ys.zip zs) (i+1) s
 |_,_,_,_,i,.nil,.nil,_,h=>kat_nil h
 |_,_,_,_,i,.cons n t h1,.cons m t' h2,hl,h=>by
  refine kat_cons (wpAny_eqBool_int ?_);by_cases d:n=m
  ·rw[beq_iff_eq.mpr d];refine kat_yes (Ej (i+1) h1 h2 (by simpa using hl) ?_)
   unfold ltI at h;rw[Zag d] at h;exact h
  ·rw[beq_eq_false_iff_ne.mpr d];refine kat_no ?_;rw[show(true&&i+1==0)=false by simp]
   unfold ltI at h;rw[Zae d] at h;exact kat_one _ _ (lt_int h)
 |_,_,_,_,_,.nil,.cons ..,hl,_=>by simp at hl
 |_,_,_,_,_,.cons ..,.nil,hl,_=>by simp at hl
theorem wA:∀ {ys:List Value}{ns:List Int},IntsAre ys ns->ys.length=ns.length
 |_,_,.nil=>rfl
 |_,_,.cons _ _ h=>by simp[wA h]
theorem mD.lt(hp:mD s.heap v p)(hq:mD s.heap u q)(hl:p.2.length=q.2.length){Q:Bool->Shared->Prop}(h:Q (iG p q) s):wpAny (model prog w) A (keyLt' (tuples' true) v u) Q E s:=by
 obtain⟨a,o,t,ys,n,rfl,e1,e2,e3,e4⟩:=hp;obtain⟨b,o',t',zs,n',rfl,f1,f2,f3,f4⟩:=hq;refine kat_lt e1 e3 f1 f3 (kat_cons (wpAny_eqBool_str ?_));rw[show decide ((List.toArray (Value.str p.1 t::ys)).size<(List.toArray (Value.str q.1 t'::zs)).size)=false by
  refine ZaC ?_;simp[wA e4,wA f4,hl]]
 by_cases c:p.1=q.1
 ·rw[ZaB c];refine kat_yes (Ej 0 e4 f4 hl ?_);rw[show iG p q=ltI p.2 q.2 by unfold iG;rw[Zag c]] at h
  exact h
 ·rw[ZaC c];refine kat_no ?_;show wpAny _ _ (oneLt' true _ _) _ _ _
  rw[show iG p q=decide (p.1.cps.toList<q.1.cps.toList) by unfold iG;rw[Zae c]] at h
  exact oneLt_str h
theorem Om{vs:List Value}{ps:List Sk}{m:Nat}(ok:pU ps m)(hl:vs.length=ps.length)(hp:∀ (i:Nat) v p,vs[i]?=some v->ps[i]?=some p->mD s.heap v p) :
  wpAny (model prog w) A (sortRuns'.run (SortSt.mk' (tuples' true) (vs.toArray.zip vs.toArray) #[] 7 none)) (λr s'=>s'=s/\failedOf r.2=none/\(arrOf r.2).map (·.2)=List.toArray ((fH ps).map λi=>vs.getD i .none)/\(arrOf r.2).size=vs.length) E s:=by
 have gv:∀ i,i<vs.length->vs[i]?=some (vs.getD i .none):=λi h=>by rw[List.getD_eq_getElem?_getD,List.getElem?_eq_getElem h];rfl
 have gp:∀ i,i<vs.length->ps[i]?=some (ps.getD i default):=λi h=>by rw[List.getD_eq_getElem?_getD,List.getElem?_eq_getElem (by lia)];rfl
 have at_:∀ i,i<vs.length->mD s.heap (vs.getD i .none) (ps.getD i default):=λi h=>hp i _ _ (gv i h) (gp i h);have inj:∀ i j,i<vs.length->j<vs.length->vs.getD i .none=vs.getD j .none->i=j:=λi j hi hj e=>ok.inj (by lia) (by lia) ((at_ i hi).RN (e▸at_ j hj))
 let ix:Keyed->Nat:=λx=>@dite _ (∃ i,i<vs.length/\vs.getD i .none=x.1) (Classical.propDecidable _) (λh=>Classical.choose h) λ_=>0
 have ixe:∀ i,i<vs.length->ix (vs.getD i .none,vs.getD i .none)=i:=λi hi=>by
  have hx:∃ j,j<vs.length/\vs.getD j .none=(vs.getD i .none,vs.getD i .none).1:=⟨i,hi,rfl⟩;show@dite _ _ (Classical.propDecidable _) _ _=i
  rw[@dif_pos _ (Classical.propDecidable _) hx];have:=Classical.choose_spec hx;exact inj _ i this.1 hi this.2
 have zl:(vs.toArray.zip vs.toArray).toList=(List.range vs.length).map λi=>(vs.getD i .none,vs.getD i .none):=by
  rw[Array.toList_zip];apply ZbA
  intro i;rw[List.getElem?_map];by_cases h:i<vs.length
  ·rw[Zbm h,show(vs.toArray.toList.zip vs.toArray.toList)[i]?=some (vs.getD i .none,vs.getD i .none) from ZbK.mpr ⟨by simpa using gv i h,by simpa using gv i h⟩];rfl
  ·rw[ZaL (by simp;lia),ZaL (by simp;lia)];rfl
 have mz:∀ x∈(vs.toArray.zip vs.toArray).toList,∃ i,i<vs.length/\x=(vs.getD i .none,vs.getD i .none):=λx hx=>by
  rw[zl] at hx;obtain⟨i,hi,e⟩:=Zas.mp hx;exact⟨i,ZaA.mp hi,e.symm⟩
 have hc:TS.Cmp prog w A s (tuples' true) (λx=>∃ i,i<vs.length/\x=(vs.getD i .none,vs.getD i .none)) (λx=>rkS ps (ix x)):=by
  rintro x y ⟨i,hi,rfl⟩ ⟨j,hj,rfl⟩ E Q q;have q:Q (decide (rkS ps (ix (vs.getD i .none,vs.getD i .none))<rkS ps (ix (vs.getD j .none,vs.getD j .none)))) s:=q;rw[ixe i hi,ixe j hj,<-ok.lt (by lia) (by lia)] at q
  exact mD.lt (at_ i hi) (at_ j hj) (by rw[ok.ln _ (tG (by lia)),ok.ln _ (tG (by lia))]) q
 have un:TS.Unl (λx=>rkS ps (ix x)) (vs.toArray.zip vs.toArray).toList:=by
  rw[zl];unfold TS.Unl;rw[Zbn];refine ZbS.imp_of_mem λ{i j} hi hj ne=>?_;show rkS ps (ix (vs.getD i .none,vs.getD i .none))≠rkS ps (ix (vs.getD j .none,vs.getD j .none))
  rw[ixe i (ZaA.mp hi),ixe j (ZaA.mp hj)];exact λe=>ne (ok.Xa (by have:=ZaA.mp hi;lia) (by have:=ZaA.mp hj;lia) e)
 have run:=TS.wpS_sortRuns (E:=E) (st:=SortSt.mk' (tuples' true) (vs.toArray.zip vs.toArray) #[] 7 none) hc rfl rfl rfl mz un (Q:=λ_ st'=>failedOf st'=none/\(arrOf st').map (·.2)=List.toArray ((fH ps).map λi=>vs.getD i .none)/\(arrOf st').size=vs.length) λst' pm ff ss=>?_
 ·exact run
 ·have pl:=Zbe.mp pm;have pl:(arrOf st').toList.Perm (vs.toArray.zip vs.toArray).toList:=pl;have back:(arrOf st').toList=((arrOf st').toList.map ix).map λi=>(vs.getD i .none,vs.getD i .none):=by
   rw[List.map_map];refine((Za4 λx hx=>?_).trans (List.map_id _)).symm;obtain⟨i,hi,rfl⟩:=mz x (pl.mem_iff.mp hx);show(vs.getD (ix _) .none,vs.getD (ix _) .none)=_
   rw[ixe i hi];rfl
  have ip:((arrOf st').toList.map ix).Perm (List.range ps.length):=by
   refine(pl.map ix).trans ?_;rw[zl,List.map_map,<-hl];exact List.Perm.of_eq ((Za4 λi hi=>ixe i (ZaA.mp hi)).trans (List.map_id _))
  have is:((arrOf st').toList.map ix).Pairwise λi j=>rkS ps i<rkS ps j:=by
   rw[Zbn];exact ss
  have eo:=ok.RN ip is;refine⟨ff,?_,?_⟩
  ·apply Array.toList_inj.mp
   rw[Array.toList_map,back,List.map_map,<-eo];rfl
  ·rw[<-Za3,pl.length_eq,zl,List.length_map,List.length_range]
theorem wB{h:Heap}:∀ {vs:List Value}{ps:List Sk},ps.length=vs.length->(∀ (i:Nat) v p,vs[i]?=some v->ps[i]?=some p->mD h v p)->∃ fs:List Value,KatTups h vs fs/\fs.length=vs.length/\∀ f∈fs,∃ x t,f=.str x t
 |[],_,_,_=>⟨[],.nil,rfl,λ_ h=>nomatch h⟩
 |v::vs,[],e,_=>by cases e
 |v::vs,p::ps,e,hp=>by
  obtain⟨a,o,t,ys,n,rfl,e1,e2,e3,_⟩:=hp 0 v p rfl rfl;obtain⟨fs,k,l,z⟩:=wB (vs:=vs) (ps:=ps) (by simpa using e) λi v p h1 h2=>hp (i+1) v p h1 h2
  refine⟨_,.cons e1 e2 e3 rfl k,by simp[l],λf hf=>?_⟩
  rcases Zaw.mp hf with y|y
  ·exact⟨_,_,y⟩
  ·exact z f y
theorem KY{r:Nat->Nat->Prop}{n:Nat}(h:n<2):(List.range n).Pairwise r:=by
 rcases(by omega:n=0\/n=1) with rfl|rfl
 ·exact .nil
 ·exact List.pairwise_singleton _ _
theorem RP{vs:List Value}(h:vs.length<2):((vs.toArray.zip vs.toArray).map (·.2)).toList=(List.range vs.length).map λi=>vs.getD i .none:=by
 cases vs with
 |nil=>simp
 |cons v l=>
  cases l with
  |nil=>simp[List.range_succ]
  |cons u l=>simp at h;omega
theorem rE{a:Addr}{vs:List Value}{ps:List Sk}{m:Nat}{n:Nat}{P:PySem.Fin->Shared->Prop}(ho:s.heap.get? a=some (seqObj "list" vs.toArray n))(hl:ps.length=vs.length)
  (hp:∀ (i:Nat) v p,vs[i]?=some v->ps[i]?=some p->mD s.heap v p)(ok:pU ps m)(hz64:vs.length<sizeLine)
  (h:(fH ps).length=vs.length->P (.done (.ret .none)) { s with heap:=sortedHeap s.heap a vs (List.toArray ((fH ps).map λi=>vs.getD i .none)) }):wpAny (model prog w) A (Builtin.«list.sort» ⟨[.ref a],[]⟩) P E s:=by
 rw[list_sort_plain];have ha:a<s.heap.objs.size:=Zam ho;obtain⟨c1,g1⟩:∃ c,(s.heap.update a (Obj.mapSeq λ_=>(#[]:Array Value))).get? a=some (seqObj "list" #[] c):=⟨_,get?_update_seq ho λ_=>#[]⟩;have old:∀ (b:Addr) (o:Obj),b≠a->s.heap.get? b=some o->(((s.heap.update a (Obj.mapSeq λ_=>(#[]:Array Value))).push (seqObj "tuple" vs.toArray 0)).push (seqObj "list" #[] 0)).get? b=some o:=λb o ne e=>
  Zad _ (Zad _ ((Heap.get?_update_ne _ _ _ _ ne).trans e))
 have g2:(((s.heap.update a (Obj.mapSeq λ_=>(#[]:Array Value))).push (seqObj "tuple" vs.toArray 0)).push (seqObj "list" #[] 0)).get? a=some (seqObj "list" #[] c1):=Zad _ (Zad _ g1);refine Zaa (listItems_at ho rfl (Zaa (listUpdate_at ho rfl ?_ (by rw[List.size_toArray];exact ZaM hz64) (Zbb _))))
 refine Zaa (seqEpoch_at g1 rfl (Zaa (wpAny_newTuple (Zaa (wpAny_newList (wpAny_holding ?_) (Zbb _))) (by show vs.length<=_;exact ZaM hz64))))
 show wpAny (model prog w) A _ P E { s with heap:=((s.heap.update a (Obj.mapSeq λ_=>(#[]:Array Value))).push (seqObj "tuple" vs.toArray 0)).push (seqObj "list" #[] 0) }
 dsimp only;by_cases h2:vs.toArray.size<2
 ·rw[Zag h2,Zag h2];refine Zaa (Zaf ?_);rw[StateT.run_pure];refine Zaa (Zaf ?_);dsimp only;have eo:(arrOf (SortSt.mk' general' (vs.toArray.zip vs.toArray) #[] 7 none)).map (·.2)=List.toArray ((fH ps).map λi=>vs.getD i .none):=by
   show(vs.toArray.zip vs.toArray).map (·.2)=_
   apply Array.toList_inj.mp
   rw[List.size_toArray] at h2;have eo:fH ps=List.range vs.length:=by
    exact(ok.RN (by rw[hl]) (KY h2)).symm
   rw[eo];exact RP h2
  rw[eo];refine Zaa (seqEpoch_at g2 rfl (Zaa (listUpdate_at g2 rfl ?_ (Zbb _) ?_)))
  ·simp only[bne_self_eq_false,Zbg,Zbh];rw[List.size_toArray] at h2;exact Zaf (h (by rw[Ol,hl]))
  ·rw[List.size_toArray] at h2;rw[<-eo];refine ZaF (ZbY (Array.size_map ..)) ?_;show(vs.toArray.zip vs.toArray).size<=_
   rw[Array.size_zip,List.size_toArray,Nat.min_self];exact Nat.le_succ_of_le (ZaM hz64)
 ·rw[Zae h2,Zae h2];rw[List.size_toArray] at h2;have notA:∀ b o,(∃ v∈vs,v=.ref b)->s.heap.get? b=some o->b≠a:=by
   rintro b o ⟨v,hv,e⟩ hb z;obtain⟨i,hi⟩:=Zby hv;have il:i<ps.length:=by rw[hl];exact(Zac.mp hi).1
   obtain⟨b',o',t,ys,n',e',f1,f2,_⟩:=hp i v _ hi (List.getElem?_eq_getElem il);rw[e] at e';cases e';rw[z,ho] at f1;cases f1;exact absurd (show Value.type "list"=Value.type "tuple" from f2) (by decide)
  have hp2:∀ (i:Nat) v p,vs[i]?=some v->ps[i]?=some p->mD (((s.heap.update a (Obj.mapSeq λ_=>(#[]:Array Value))).push (seqObj "tuple" vs.toArray 0)).push (seqObj "list" #[] 0)) v p:=λi v p h1 h2=>
   (hp i v p h1 h2).same λb o e1 e2=>old b o (notA b o ⟨v,Zal h1,e1⟩ e2) e2
  obtain⟨fs,k1,k2,k3⟩:=wB hl hp2;refine Zaa (kat_kind (s:={ s with heap:=_ }) (T:=.type "str") k1 (by omega) (λf hf=>?_) (by decide) ?_)
  ·obtain⟨x,t,rfl⟩:=k3 f hf;exact .now
  show wpAny _ _ _ _ _ _
  rw[show tuples' (Value.type "str" != Value.type "tuple")=tuples' true from rfl];have run:=Om (prog:=prog) (w:=w) (A:=A) (E:=E) (s:={ s with heap:=((s.heap.update a (Obj.mapSeq λ_=>(#[]:Array Value))).push (seqObj "tuple" vs.toArray 0)).push (seqObj "list" #[] 0) }) ok hl.symm hp2;refine Zaa (Za8 run ?_ λ_ _ e=>e);rintro⟨⟨⟩,st'⟩ s' ⟨rfl,hf,hm,hz⟩;dsimp only;rw[hm];refine Zaa (seqEpoch_at g2 rfl (Zaa (listUpdate_at g2 rfl ?_ (Zbb _) ?_)))
  ·rw[hf];simp only[bne_self_eq_false,Zbg,Zbh];refine Zaf (h ?_);have:=Zbd Array.size hm;rw[Array.size_map,hz,List.size_toArray,List.length_map] at this;exact this.symm
  ·rw[<-hm];refine ZaF (ZbY ((Array.size_map ..).trans hz)) (Nat.le_succ_of_le (ZaM hz64))
end
open PySem PySem.Spec PySem.W PyProof PyProof.Rows
def skV(p:Sk):HO:=.tup (.str p.1::p.2.map V.int)
def skK(p:Sk):List Key:=.inr p.1::p.2.map .inl
theorem Xb(p:Sk):HO.tup ((skK p).map kV)=skV p:=by unfold skK skV;simp[kV,Function.comp_def]
theorem TX{h:Heap}{b:Addr}{ob:Obj}{its:List Value}{n:Nat}{p:Sk}(r:Vals (.str p.1::p.2.map V.int) its)(w1:h.get? b=some ob)(w2:ob.cls=.type "tuple")(w3:ob.data=.seq its.toArray n):mD h (.ref b) p:=by
 cases r with
 |cons r1 r2=>
  obtain⟨t1,rfl⟩:=r1;exact⟨b,ob,t1,_,n,rfl,w1,w2,w3,MP.Dq r2⟩
def Jj(K:PySem.W.Frag):List V->Hp->VK->Prop:=λxs H Q=>∃ (p:Addr) (bs:List Addr) (ps:List Sk) (m:Nat),xs=[.ref p]/\SqL K H p (bs.map V.ref)/\bs.length=ps.length/\(∀ (j:Nat) b p,bs[j]?=some b->ps[j]?=some p->H b=some (skV p))/\pU ps m/\ps.length<sizeLine /\
 ∀ l,H l=none->Q (.ref l) (upd H l (.lst ((fH ps).map λj=>.ref (bs.getD j 0))))
def ul:List Key->Option (List Int)
 |[]=>some []
 |.inl n::l=>(ul l).map (n::·)
 |_=>none
theorem Ek:∀ {l:List Key}{ns:List Int},ul l=some ns->l=ns.map .inl
 |[],ns,h=>by cases h;rfl
 |.inl n::l,ns,h=>by
  have h:(ul l).map (n::·)=some ns:=h;obtain⟨q,e1,rfl⟩:=Zbi.mp h;rw[Ek e1];rfl
def kSk:List Key->Option Sk
 |.inr x::l=>(ul l).map λns=>(x,ns)
 |_=>none
theorem Vx:∀ {l:List Key}{p:Sk},kSk l=some p->l=skK p
 |.inr x::l,p,h=>by
  have h:(ul l).map (λns=>(x,ns))=some p:=h;obtain⟨q,e1,rfl⟩:=Zbi.mp h;rw[Ek e1];rfl
def xW:List (List Key)->Option (List Sk)
 |[]=>some []
 |k::ks=>match kSk k,xW ks with
  |some p,some ps=>some (p::ps)
  |_,_=>none
theorem Jk:∀ {ks:List (List Key)}{ps:List Sk},xW ks=some ps->ps.length=ks.length/\∀ (i:Nat) p,ps[i]?=some p->ks[i]?=some (skK p)
 |[],ps,h=>by cases h;exact⟨rfl,λi p e=>by simp at e⟩
 |k::ks,ps,h=>by
  unfold xW at h;split at h
  ·rename_i p qs h1 h2;cases h;obtain⟨g1,g2⟩:=Jk h2;refine⟨by simp[g1],λi q e=>?_⟩
   cases i with
   |zero=>cases e;rw[Vx h1];rfl
   |succ i=>exact g2 i q (by simpa using e)
  ·cases h
def Jl:List V->Hp->VK->Prop:=λxs H Q=>∃ p kvs ps m,xs=[.ref p]/\Rd H p (.dT kvs)/\xW (kvs.map (·.1))=some ps/\pU ps m/\ps.length<sizeLine/\∀ l (ad:Nat->Addr),H l=none->(∀ j∈fH ps,H (ad j)=some (skV (ps.getD j default)))->Q (.ref l) (upd H l (.lst ((fH ps).map λj=>.ref (ad j))))
section
variable{X:Cx}
theorem oU:lW X (.builtin "sorted") (Jj X.K):=by
 intro pins s σ H xs us Q I rv h;obtain⟨p,bs,ps,m,rfl,hq,hl,ht,ok,h64,q⟩:=h;obtain⟨u,rfl,ru⟩:=rv.one;cases ru;obtain⟨its,r,pl,hz⟩:=I.list hq;have ei:=yW r;subst ei;have hlen:(bs.map Value.ref).length=ps.length:=by rw[List.length_map,hl]
 have prs:∀ (i:Nat) v p,(bs.map Value.ref)[i]?=some v->ps[i]?=some p->mD s.heap v p:=λi v p h1 h2=>by
  rw[List.getElem?_map] at h1;cases hb:bs[i]? with
  |none=>rw[hb] at h1;cases h1
  |some b=>
   rw[hb] at h1;cases h1;obtain⟨_,its,r,⟨ob,w1,w2,n,w3⟩,_⟩:=(show cF X.prog X.w H s.heap b (skV p) from I.hok b _ (ht i b p hb h2));exact TX r w1 w2 w3
 refine Calls.call_function_entry kind_sorted plain_sorted entry_sorted (args_sorted1 _) ?_;unfold Builtin.«sorted»;refine Zaa (m:=checkCount "sorted" 1 1 _) (Zaf ?_);refine Zaa (collect_list pl.isList ?_ (by rw[hlen];exact ZaM h64))
 refine Zaa (wpAny_newList ?_ (by rw[hlen];exact ZaM h64))
 have hsz:((s.heap.push (seqObj "list" #[] 0)).update s.heap.objs.size (Obj.mapSeq (·++(bs.map Value.ref).toArray))).objs.size=s.heap.objs.size+1:=by
  rw[Heap.size_update,size_push']
 have hoL:(((s.heap.push (seqObj "list" #[] 0)).update s.heap.objs.size (Obj.mapSeq (·++(bs.map Value.ref).toArray))).push (seqObj "list" (bs.map Value.ref).toArray 0)).get? (s.heap.objs.size+1)=some (seqObj "list" (bs.map Value.ref).toArray 0):=by
  rw[<-hsz];exact Zar _ rfl
 have keep:∀ b o,s.heap.get? b=some o->(((s.heap.push (seqObj "list" #[] 0)).update s.heap.objs.size (Obj.mapSeq (·++(bs.map Value.ref).toArray))).push (seqObj "list" (bs.map Value.ref).toArray 0)).get? b=some o:=λb o q=>by
  have hlt:b<s.heap.objs.size:=Zam q;rw[Heap.get?_push_ne _ _ _ (by rw[hsz];exact ZaD (Nat.lt_succ_of_lt hlt)),Heap.get?_update_ne _ _ _ _ (ZaD hlt),Heap.get?_push_ne _ _ _ (ZaD hlt)]
  exact q
 show wpAny _ _ _ _ _ { s with heap:=((s.heap.push (seqObj "list" #[] 0)).update s.heap.objs.size (Obj.mapSeq (·++(bs.map Value.ref).toArray))).push (seqObj "list" (bs.map Value.ref).toArray 0) }
 rw[hsz];refine Zaa (wpAny_holding (wpAny_call_entry slot_list_sort ⟨_,hoL,rfl⟩ entry_list_sort (rE (ps:=ps) hoL hlen.symm (λi v p h1 h2=>(prs i v p h1 h2).same λb o _ e=>keep b o e) ok (by rw[hlen];exact h64) λhn=>⟨_,rfl,?_⟩) (args_list_sort _)))
 refine Zaf ⟨_,rfl,?_⟩;obtain⟨e',he⟩:=sortedAll_at s.heap (bs.map Value.ref) (List.toArray ((fH ps).map λi=>(bs.map Value.ref).getD i .none));have fresh:H (s.heap.objs.size+1)=none:=I.hok.fresh (ZbZ _);refine⟨.ref (s.heap.objs.size+1),upd H (s.heap.objs.size+1) (.lst ((fH ps).map λj=>.ref (bs.getD j 0))),I.laid (t':=s.toks) (λb o=>sortedAll_old (vs:=bs.map Value.ref)) (ZbZ _) ⟨?_,(fH ps).map λi=>(bs.map Value.ref).getD i .none,e',vZ λj hj=>?_,he⟩,rfl,q _ fresh⟩
 ·rw[List.length_map,hn,hlen];exact ZaM h64
 ·have hj:j<bs.length:=by rw[hl];exact rD j hj
  rw[List.getD_eq_getElem?_getD (l:=bs.map Value.ref),List.getElem?_map,List.getD_eq_getElem?_getD (l:=bs),List.getElem?_eq_getElem hj];rfl
theorem xX(hc:X.calm=true):lW X (.builtin "sorted") Jl:=by
 intro pins s σ H xs us Q I rv h;obtain⟨p,kvs,ps,m,rfl,e,hk,ok,h64,q⟩:=h;obtain⟨u,rfl,ru⟩:=rv.one;cases ru;obtain⟨z,hd,ts,rel,o,es,ep,d1,d2,d3,d4,d5,d6⟩:=tZ I.hok e;obtain⟨lx,ax⟩:=rel.at;obtain⟨lp,ap⟩:=Jk hk;rw[List.length_map] at lp;have sz:es.size=ts.length:=by rw[<-Za3,d4,List.length_map]
 have at1:∀ j,j<ps.length->∃ b u,ts[j]?=some (skK (ps.getD j default),b,u)/\H b=some (skV (ps.getD j default))/\es[j]?=some (entryOfKey (tupleKind (cG X.prog X.w)) (skK (ps.getD j default),b,u)):=λj hj=>by
  have e1:ps[j]?=some (ps.getD j default):=by rw[List.getD_eq_getElem?_getD,List.getElem?_eq_getElem hj];rfl
  obtain⟨b,u,h1,h2⟩:=ax j _ (ap j _ e1);rw[Xb] at h2;refine⟨b,u,h1,h2,?_⟩;rw[<-ZaH,d4,List.getElem?_map,h1];rfl
 refine Calls.call_function_entry kind_sorted plain_sorted entry_sorted (args_sorted1 _) ?_;unfold Builtin.«sorted»;refine Zaa (m:=checkCount "sorted" 1 1 _) (Zaf ?_);refine Zaa (PySem.W.kdu_collect (Rr (es:=es) (ep:=ep) hd) (I.ok.hd hc) ⟨o,d1,d2,d3⟩ (by lia) λh' tk acc hold hacc=>?_)
 have hla:acc.toList.length=ps.length:=by rw[Za3,hacc.1];lia
 have acc_at:∀ (j:Nat) b,(∃ u,ts[j]?=some (skK (ps.getD j default),b,u))->acc.toList[j]?=some (.ref b):=λj b ⟨u,hu⟩=>by
  have hj:j<acc.toList.length:=by rw[hla];have:=(Zac.mp hu).1;lia
  obtain⟨x,y1,y2⟩:=hacc.2 j _ (by rw[<-ZaH];exact List.getElem?_eq_getElem hj)
  rw[<-ZaH,d4,List.getElem?_map,hu] at y1;cases y1;rw[List.getElem?_eq_getElem hj,y2];rfl
 have I1:Inv X pins σ H { s with heap:=h',toks:=tk }:=I.kept hold;have prs:∀ (i:Nat) v p,acc.toList[i]?=some v->ps[i]?=some p->mD h' v p:=λi v p h1 h2=>by
  have hi:i<ps.length:=(Zac.mp h2).1;have ep':ps.getD i default=p:=by rw[List.getD_eq_getElem?_getD,h2];rfl
  obtain⟨b,u,y1,y2,_⟩:=at1 i hi;rw[acc_at i b ⟨u,y1⟩] at h1;cases h1;rw[ep'] at y2;obtain⟨_,its,r,⟨ob,w1,w2,n,w3⟩,_⟩:=(show cF X.prog X.w H h' b (skV p) from I1.hok b _ y2);exact TX r w1 w2 w3
 refine Zaa (wpAny_newList ?_ (by rw[hla];exact ZaM h64))
 have hoL:(h'.push (seqObj "list" acc.toList.toArray 0)).get? h'.objs.size=some (seqObj "list" acc.toList.toArray 0):=Zar _ rfl;show wpAny _ _ _ _ _ { s with heap:=h'.push (seqObj "list" acc.toList.toArray 0),toks:=tk }
 refine Zaa (wpAny_holding (wpAny_call_entry slot_list_sort ⟨_,hoL,rfl⟩ entry_list_sort (rE (ps:=ps) hoL hla.symm (λi v p h1 h2=>(prs i v p h1 h2).same λb o _ e=>Zad _ e) ok (by rw[hla];exact h64) λhn=>⟨_,rfl,?_⟩) (args_list_sort _)))
 refine Zaf ⟨_,rfl,?_⟩;obtain⟨e',he⟩:=sortedHeap_at (out:=List.toArray ((fH ps).map λi=>acc.toList.getD i .none)) hoL;have fresh:H h'.objs.size=none:=I1.hok.fresh (Zai _);have ads:∀ j∈fH ps,∃ b u,ts[j]?=some (skK (ps.getD j default),b,u)/\H b=some (skV (ps.getD j default)):=λj hj=>by
  obtain⟨b,u,y1,y2,_⟩:=at1 j (rD j hj);exact⟨b,u,y1,y2⟩
 refine⟨.ref h'.objs.size,upd H h'.objs.size (.lst ((fH ps).map λj=>.ref (ts.getD j ([],0,.none)).2.1)),I1.laid (t':=tk) (λb o=>Az) (Zai _) ⟨?_,(fH ps).map λi=>acc.toList.getD i .none,e',vZ λj hj=>?_,he⟩,rfl,q _ (λj=>(ts.getD j ([],0,.none)).2.1) fresh λj hj=>?_⟩
 ·rw[List.length_map,hn,hla];exact ZaM h64
 ·obtain⟨b,u,y1,y2⟩:=ads j hj;rw[List.getD_eq_getElem?_getD (l:=ts),y1,List.getD_eq_getElem?_getD (l:=acc.toList),acc_at j b ⟨u,y1⟩];rfl
 ·obtain⟨b,u,y1,y2⟩:=ads j hj;rw[List.getD_eq_getElem?_getD (l:=ts),y1];exact y2
end
end L2
namespace L2.MP
open PySem PySem.Spec PySem.W PyProof PyProof.Rows
def skP(p:Sk):PV:=.tup (.str p.1::p.2.map PV.int)
def Vy:PV->Option Sk
 |.tup (.str x::l)=>(mX l).map λns=>(x,ns)
 |_=>none
theorem lF{l:List PV}:∀ {ns:List Int},mX l=some ns->l=ns.map PV.int:=by
 induction l with
 |nil=>intro ns h;cases h;rfl
 |cons a l ih=>
  intro ns h;have inv:∃ n,a=.int n:=by
   clear ih
   cases a<;>first|exact noS h|exact⟨_,rfl⟩
  obtain⟨n,rfl⟩:=inv;have h:(mX l).map (n::·)=some ns:=h;obtain⟨q,e1,rfl⟩:=Zbi.mp h;rw[ih e1];rfl
theorem RQ{p:PV}{q:Sk}(h:Vy p=some q):p=skP q:=by
 have inv:∃ x l,p=.tup (.str x::l):=by
  cases p<;>first|exact noS h|(rename_i l;cases l<;>first|exact noS h|(rename_i a l;cases a<;>first|exact noS h|exact⟨_,_,rfl⟩))
 obtain⟨x,l,rfl⟩:=inv;have h:(mX l).map (λns=>(x,ns))=some q:=h;obtain⟨ns,e1,rfl⟩:=Zbi.mp h;rw[lF e1];rfl
def wC:List PV->Option (List Sk)
 |[]=>some []
 |p::l=>match Vy p,wC l with
  |some q,some qs=>some (q::qs)
  |_,_=>none
theorem El:∀ {l:List PV}{ps:List Sk},wC l=some ps->l=ps.map skP
 |[],ps,h=>by cases h;rfl
 |p::l,ps,h=>by
  unfold wC at h;split at h
  ·rename_i q qs h1 h2;cases h;rw[RQ h1,El h2];rfl
  ·cases h
def jD(ps:List Sk):Bool:=match ps with
 |[]=>true
 |p::l=>l.all λq=>q.2.length==p.2.length
theorem wD{ps:List Sk}(h:jD ps=true)(nd:ps.Nodup):∃ m,pU ps m:=by
 cases ps with
 |nil=>exact⟨0,nd,λp hp=>(nomatch hp)⟩
 |cons p l=>
  refine⟨p.2.length,nd,λq hq=>?_⟩;rcases Zaw.mp hq with e|e
  ·rw[e]
  ·exact beq_iff_eq.mp (Za6.mp h q e)
def ou(l:List PV):Option (Res PV):=match wC l with
 |some ps=>if ps.Nodup/\jD ps=true/\ps.length<sizeLine then some (.ok (.lst ((fH ps).map λj=>skP (ps.getD j default)))) else none
 |none=>none
def wF:PV->Option (Res PV)
 |.dt l=>match xW (l.map (·.1)) with
  |some ps=>if ps.Nodup/\jD ps=true/\ps.length<sizeLine then some (.ok (.lst ((fH ps).map λj=>skP (ps.getD j default)))) else none
  |none=>none
 |_=>none
section
variable{K:PySem.W.Frag}{C:Cg}
theorem zj{F:Hp}:∀ {ns:List Int}{xs:List V},bh K F xs (ns.map PV.int)->xs=ns.map V.int
 |[],xs,r=>r.gQ
 |n::ns,xs,r=>by
  obtain⟨v,ys,rfl,r1,r2⟩:=bh.cV (show bh K F xs (PV.int n::ns.map PV.int) from r);cases Rep.aY r1;rw[zj r2];rfl
theorem Vz{F:Hp}{v:V}{p:Sk}(r:Rep K F v (skP p)):∃ b,v=.ref b/\F b=some (skV p):=by
 obtain⟨b,zs,rfl,hb,rr⟩:=Rep.qI (show Rep K F v (.tup (.str p.1::p.2.map PV.int)) from r);obtain⟨v1,ys1,rfl,s1,s2⟩:=rr.cV;cases Rep.bN s1;rw[zj s2] at hb;exact⟨b,rfl,hb⟩
theorem Oo{F:Hp}{b:Addr}{p:Sk}(h:F b=some (skV p)):Rep K F (.ref b) (skP p):=by
 refine .tup h (by simp) λj x q e1 e2=>?_
 cases j with
 |zero=>cases e1;cases e2;exact .str
 |succ j=>
  rw[List.getElem?_cons_succ,List.getElem?_map] at e1 e2;cases ej:p.2[j]? with
  |none=>rw[ej] at e1;cases e1
  |some n=>rw[ej] at e1 e2;cases e1;cases e2;exact .int
theorem Em{F:Hp}:∀ {ps:List Sk}{xs:List V},bh K F xs (ps.map skP)->∃ bs:List Addr,xs=bs.map V.ref/\bs.length=ps.length/\∀ (j:Nat) b p,bs[j]?=some b->ps[j]?=some p->F b=some (skV p)
 |[],xs,r=>⟨[],r.gQ,rfl,λj b p e=>by simp at e⟩
 |p::ps,xs,r=>by
  obtain⟨v,ys,rfl,r1,r2⟩:=bh.cV (show bh K F xs (skP p::ps.map skP) from r);obtain⟨bs,rfl,h2,h3⟩:=Em r2;obtain⟨b,rfl,hb⟩:=Vz r1;refine⟨b::bs,rfl,by simp[h2],λj b' p' e2 e3=>?_⟩
  cases j with
  |zero=>cases e2;cases e3;exact hb
  |succ j=>exact h3 j b' p' (by simpa using e2) (by simpa using e3)
theorem Jm:R1O K C (aV K) (Jj K) ou:=by
 intro F H x a res Q s ha e P;unfold ou at e;cases h:wC a with
 |none=>rw[h] at e;cases e
 |some ps=>
  rw[h] at e;have e:(if ps.Nodup/\jD ps=true/\ps.length<sizeLine then some (Res.ok (PV.lst ((fH ps).map λj=>skP (ps.getD j default)))) else none)=some res:=e;split at e
  ·rename_i hc;cases e;obtain⟨m,ok⟩:=wD hc.2.1 hc.1;obtain⟨b,xs,rfl,h1,r1⟩:=ha;rw[El h] at r1;obtain⟨bs,rfl,k1,k2⟩:=Em r1;refine⟨b,bs,ps,m,rfl,h1,k1,λj b p e1 e2=>s _ _ (k2 j b p e1 e2),ok,hc.2.2,λl hl=>P l F _ (Up.GQ s hl) hl (s.free hl) ⟨_,au,by simp,λj x p e1 e2=>?_⟩⟩
   rw[List.getElem?_map] at e1 e2;cases ej:(fH ps)[j]? with
   |none=>rw[ej] at e1;cases e1
   |some i=>
    rw[ej] at e1 e2;cases e1;cases e2;have hi:=rD i (Zal ej);have g1:bs[i]?=some (bs.getD i 0):=by rw[List.getD_eq_getElem?_getD,List.getElem?_eq_getElem (by omega)];rfl
    have g2:ps[i]?=some (ps.getD i default):=by rw[List.getD_eq_getElem?_getD,List.getElem?_eq_getElem hi];rfl
    exact Oo (k2 i _ _ g1 g2)
  ·cases e
theorem Oq:R1O K C (aD K) Jl wF:=by
 intro F H x a res Q s ha e P
 match a,e with
 |.dt l,e=>
  obtain⟨_,ad,rfl,xs,h1,h2,h3⟩:=ha;replace e:(match xW (l.map (·.1)) with
   |some ps=>if ps.Nodup/\jD ps=true/\ps.length<sizeLine then some (Res.ok (PV.lst ((fH ps).map λj=>skP (ps.getD j default)))) else none
   |none=>none)=some res:=e
  cases h:xW (l.map (·.1)) with
  |none=>rw[h] at e;cases e
  |some ps=>
   rw[h] at e;have e:(if ps.Nodup/\jD ps=true/\ps.length<sizeLine then some (Res.ok (PV.lst ((fH ps).map λj=>skP (ps.getD j default)))) else none)=some res:=e;split at e
   ·rename_i hc;cases e;obtain⟨m,ok⟩:=wD hc.2.1 hc.1;refine⟨ad,xs,ps,m,rfl,h1,by rw[h2];exact h,ok,hc.2.2,λl' bs hl hb=>P l' _ _ (Up.tups s hl) hl ?_ ⟨_,au,by simp,λj x p e1 e2=>?_⟩⟩
    ·rw[eY]
     ·exact s.free hl
     ·rintro(z|⟨ys,z⟩)
      ·exact z
      ·rw[hl] at z;cases z
    ·rw[List.getElem?_map] at e1 e2;cases ej:(fH ps)[j]? with
     |none=>rw[ej] at e1;cases e1
     |some i=>
      rw[ej] at e1 e2;cases e1;cases e2;have:=hb i (Zal ej);exact Oo (by rw[fU (.inr ⟨_,this⟩)];exact this)
   ·cases e
end
end L2.MP
namespace L2
open PySem PySem.Spec PyProof PyProof.Rows
def Itk(a:Addr)(raw:Obj)(kvs:List (List Key×V)):It:=
 ⟨λi H=>H a=some (.frz raw (.dT kvs))/\i<kvs.length,λi H x H'=>H'=H/\∃ kv b,kvs[i]?=some kv/\x=.ref b/\H b=some (.tup (kv.1.map kV)),λi H=>H a=some (.frz raw (.dT kvs))/\i=kvs.length⟩
theorem kt_at{H:Hp}{kvs:List (List Key×V)}{xs:List (List Key×Addr×Value)}(rel:Paired (λ(p:List Key×V) (q:List Key×Addr×Value)=>p.1=q.1/\H q.2.1=some (.tup (p.1.map kV))/\RelV p.2 q.2.2) kvs xs) :
  xs.length=kvs.length/\∀ (i:Nat) kv,kvs[i]?=some kv->∃ z,xs[i]?=some z/\kv.1=z.1/\H z.2.1=some (.tup (kv.1.map kV))/\RelV kv.2 z.2.2:=by
 induction rel with
 |nil=>exact⟨rfl,λi kv q=>by simp at q⟩
 |@cons p z ps zs hp _ ih=>
  refine⟨by simp[ih.1],λi kv q=>?_⟩
  cases i with
  |zero=>simp at q;subst q;exact⟨z,rfl,hp⟩
  |succ i=>exact ih.2 i kv (by simpa using q)
theorem j9{P:Program}{w:World}{H:Hp}{h:Heap}{a:Addr}{raw:Obj}{kvs:List (List Key×V)}(ok:HOk P w H h)(e:H a=some (.frz raw (.dT kvs))){es:Array DictEntry}{ep:Nat}(hd:raw.data=.dict es ep) :
  (a==sysModules)=false/\oN h a es ep/\es.size=kvs.length/\∀ (i:Nat) kv,kvs[i]?=some kv->∃ (b:Addr) (u:Value) (x:DictEntry),es[i]?=some x/\x.key=.ref b/\x.val=u/\H b=some (.tup (kv.1.map kV))/\RelV kv.2 u:=by
 obtain⟨hr,_,hs,xs,rel,o,es',ep',h1,h2,h3,h4,h5⟩:=(show cF P w H h a (.frz raw (.dT kvs)) from ok a _ e);rw[hr] at h1;cases h1;rw[hd] at h3;cases h3;obtain⟨ln,at_⟩:=kt_at rel;refine⟨hs,⟨raw,hr,h2,hd⟩,by rw[<-Za3,h4,List.length_map,ln],λi kv q=>?_⟩
 obtain⟨z,e1,e2⟩:=at_ i kv q;refine⟨z.2.1,z.2.2,entryOfKey (tupleKind (cG P w)) z,?_,rfl,rfl,e2.2.1,e2.2.2⟩;rw[<-ZaH,h4,List.getElem?_map,e1];rfl
theorem Jo{X:Cx}{H:Hp}{h:Heap}{a:Addr}{raw:Obj}{kvs:List (List Key×V)}(ok:HOk X.prog X.w H h)(e:H a=some (.frz raw (.dT kvs))):∃ es ep,raw.data=.dict es ep:=by
 obtain⟨hr,_,hs,xs,rel,o,es',ep',h1,h2,h3,h4⟩:=(show cF X.prog X.w H h a (.frz raw (.dT kvs)) from ok a _ e);rw[hr] at h1;cases h1;exact⟨_,_,h3⟩
theorem Ht{P:Program}{w:World}{K:PySem.W.Frag}{tg:Expr}(a it:Addr)(raw:Obj)(kvs:List (List Key×V)){es:Array DictEntry}{ep:Nat}(hd:raw.data=.dict es ep) :
  Turn P w K tg (Itk a raw kvs) [it] it (λi h=>h.IsKeyIter it a i kvs.length ep) where
 mem:=by simp
 obj:=λi h st b hb=>by
  have e:b=it:=by simpa using hb
  subst e;obtain⟨o,e,c,d⟩:=st;exact⟨o,e,λv z=>by rw[d] at z;cases z⟩
 keep:=λi h h' st k=>st.at λo q=>k it (by simp) o q
 item:=by
  intro X hP hw hK hc i pins s σ H E I hf st hg;subst hP hw hK;obtain⟨e,hi⟩:=hg;obtain⟨f0,f1,f2,f3,f4,f5⟩:=hf it (by simp)
  obtain⟨_,rd,hl,at_⟩:=j9 I.hok e hd;have hne:a≠it:=λz=>by subst z;rw[e] at f0;cases f0
  have W:=tu (prog:=X.prog) (w:=X.w) (A:=X.A) (I.ok.hd hc) it a hne es ep;refine W.item i s _ _ (by lia) ⟨by rw[hl];exact st,rd⟩ λv h' tk hv st' kk=>?_
  obtain⟨x,hx,rfl⟩:=hv;have I1:Inv X pins σ H { s with heap:=h',toks:=tk }:=I.turned (λb o hb e=>kk b o (by simpa using hb) e) f0 f1 f3 f4 f5
  obtain⟨o,eo,cc,dd'⟩:=id st'.1;obtain⟨p,hp⟩:∃ p,kvs[i]?=some p:=⟨_,List.getElem?_eq_getElem hi⟩;obtain⟨b,u,y,y1,y2,y3,y4,y5⟩:=at_ i p hp;rw[hx] at y1;cases y1;refine⟨_,rfl,CK (s:={ s with heap:=h',toks:=tk }) eo cc dd' (by decide) ⟨.ref b,H,I1,y2,⟨rfl,p,b,hp,rfl,y4⟩,by rw[<-hl];exact st'.1,λb hb=>(hf b hb).1⟩⟩
 done:=by
  intro X hP hw hK hc i pins s σ H E I hf st hg;subst hP hw hK;obtain⟨e,hi⟩:=hg;obtain⟨f0,f1,f2,f3,f4,f5⟩:=hf it (by simp)
  obtain⟨_,rd,hl,at_⟩:=j9 I.hok e hd;have hne:a≠it:=λz=>by subst z;rw[e] at f0;cases f0
  have W:=tu (prog:=X.prog) (w:=X.w) (A:=X.A) (I.ok.hd hc) it a hne es ep;subst hi;refine W.done s _ _ ⟨by rw[hl];exact st,rd⟩ λh' tk kk=>⟨rfl,I.turned (λb o hb e=>kk b o (by simpa using hb) e) f0 f1 f3 f4 f5⟩
 self:=λA i s Q E st h=>wpAny_pyIter_keyiter st h
def Ot(tl:TE):TI:=λσ H R=>tl σ H λx H1=>∃ a raw kvs,x=.ref a/\H1 a=some (.frz raw (.dT kvs))/\R (Itk a raw kvs) H1
theorem wG{X:Cx}{tg l:Expr}{tl:TE}(hl:PE X l tl):PI X tg l (Ot tl):=by
 intro pins s σ H R I h;refine thn (hl pins s σ H _ I h) ?_;rintro v s1 ⟨x,H1,I1,r1,q1⟩;obtain⟨a,raw,kvs,e,ha,q⟩:=q1;subst e;cases r1;obtain⟨es,ep,hd⟩:=Jo I1.hok ha;obtain⟨hs,rd,hl,at_⟩:=j9 I1.hok ha hd;refine DK hs rd ?_;refine⟨s1.heap.objs.size,[s1.heap.objs.size],_,_,H1,rfl,I1.kept (t':=s1.toks) λb o e=>Zad _ e,Ht a _ raw kvs hd,⟨_,Zar _ rfl,rfl,by rw[hl];rfl⟩,λb hb=>?_,q⟩
 have e:b=s1.heap.objs.size:=by simpa using hb
 subst e;exact I1.CJ (Zai _) (I1.hok.fresh (Zai _))
namespace MP
def oV(k:List Key):PV:=.tup (k.map W4)
def pW(l:List (List Key×PV)):List PV:=l.map λkv=>oV kv.1
def rF:PV->Option (Res (List PV))
 |.dt l=>some (.ok (pW l))
 |_=>none
section
variable{K:PySem.W.Frag}{C:Cg}
theorem Up.TY{F H:Hp}(s:aP F H):Up F H (uy F H λ_=>False) H:=by
 refine⟨iW s,aP.refl _,λb o q=>?_,qZ s⟩;by_cases hb:False\/∃ ys,H b=some (.tup ys)
 ·rw[fU hb] at q;obtain⟨ys,z⟩:=hb.resolve_left id;rw[z] at q;cases q;exact .inr (.inr ⟨ys,rfl⟩)
 ·rw[eY hb] at q;exact .inl q
theorem En{F H:Hp}{b:Addr}{k:List Key}(h:H b=some (.tup (k.map kV))):Rep K (uy F H λ_=>False) (.ref b) (oV k):=by
 refine .tup (by rw[fU (.inr ⟨_,h⟩)];exact h) (by simp) λn y r c1 c2=>?_
 rw[List.getElem?_map] at c1 c2;cases e:k[n]? with
 |none=>rw[e] at c1;cases c1
 |some z=>rw[e] at c1 c2;cases c1;cases c2;exact Ro
theorem tH(i:Nat):Rm K C i (Ot (iZ i)) (m1 rF (mV i)):=by
 intro F H σ ρ R' r R hh e P;rcases bK e with⟨z,e1,rfl⟩|⟨p,e1,hk⟩
 ·unfold mV at e1;split at e1
  ·cases e1
  ·cases e1
 obtain⟨a,raw,u,ev,fa,hu⟩:=hh;have hp:ρ[i]?=some (some (.sh p)):=by
  unfold mV at e1;split at e1
  ·rename_i q hq;cases e1;exact hq
  ·cases e1
 match p,hk with
 |.dt l,hk=>
  cases hk;obtain⟨v,ev',rv⟩:=R.sh i _ hp;rw[ev] at ev';cases ev';cases rv with
  |@dt _ xs _ h hl hr=>
   have hx:u=.dT xs:=by
    rcases h with h|⟨o,h⟩
    ·rw[fa] at h;cases h
    ·rw[fa] at h;cases h;rfl
   subst hx;have len:xs.length=l.length:=by have:=Zbd List.length hl;simpa using this
   refine⟨_,ev,a,raw,xs,rfl,R.rb.sub _ _ fa,P _ F H (Up.refl R.rb.sub) ⟨λF' H' s s'=>?_,λj F' H' hj s s'=>?_,λj F' H' x H'' hj s s' y=>?_⟩⟩
   ·exact⟨s' _ _ (s _ _ fa),by unfold pW;rw[List.length_map];exact len.symm⟩
   ·refine⟨s' _ _ (s _ _ fa),?_⟩;unfold pW at hj;rw[List.length_map] at hj;lia
   ·obtain⟨rfl,kv,b,hkv,rfl,hb⟩:=y;have hl2:(l.map (·.1))[j]?=some kv.1:=by rw[<-hl,List.getElem?_map,hkv];rfl
    refine⟨uy F' H'' λ_=>False,oV kv.1,Up.TY s',?_,En hb⟩;unfold pW;rw[List.getElem?_map] at hl2 ⊢;cases q:l[j]? with
    |none=>rw[q] at hl2;cases hl2
    |some w=>
     rw[q] at hl2;show some (oV w.1)=some (oV kv.1)
     rw[show w.1=kv.1 from Zab hl2]
end
end MP
section
variable{prog:Program}{w:World}{A:Around}{E:Value->Shared->Prop}{s:Shared}{d it:Addr}{es:Array DictEntry}{ep i:Nat}
theorem KZ(hd:(d==sysModules)=false):MeetsIn prog w (Builtin.«dict.items» ⟨[.ref d],[]⟩) (λ_ R s=>s.TypeIs (.ref d) "dict"/\R (.ok (.ret (.ref s.heap.objs.size))) { s with heap:=s.heap.push { cls:=.type "dict_items",data:=.fields #[.ref d] } }):=
 .of_wp λA R s ⟨ty,h⟩=>by
  unfold Builtin.«dict.items»;refine Zaa ?_;unfold Builtin.Dict.noArgs;refine Zaa (wpAny_notOrdered_dict ty (Zaf ?_));show wpAny _ _ (Builtin.Dict.showsAll d>>=_) _ _ s
  unfold Builtin.Dict.showsAll;rw[Zae (by rw[hd];exact Zbf)]
  exact Zaa (Zaf (Zaa (wpAny_newObj_type (Zaf ⟨_,rfl,h⟩))))
theorem K1{v:Addr}{Q:Value->Shared->Prop}(hv:s.heap.IsItemsView v d)(r:oN s.heap d es ep)
  (q:Q (.ref s.heap.objs.size) { s with heap:=s.heap.push { cls:=.type "dict_itemiterator",data:=.fields #[.none,.bool false,.ref d,.int 0 0,.int es.size 0,.int ep 0,.none,.none] } }):wpAny (model prog w) A (pyIter (.ref v)) Q E s:=by
 obtain⟨ov,v1,v2,v3⟩:=id hv;obtain⟨o,e1,e2,e3⟩:=id r;refine wpAny_pyIter_slot hv.typeIs PySem.F.slot_dict_items_iter (wpAny_call_entry PySem.F.slot_dict_items_iter hv.typeIs PySem.F.entry_dict_items_iter ?_ (PySem.F.args_dict_items_iter_1 _));unfold Builtin.«dict_items.__iter__»;refine Zaa (Zaf (Zaa ?_));unfold Builtin.Dict_items.dictOf;refine Zaa (wpAny_field v1 v3 (x:=.ref d) rfl (Zaf (Zaa ?_)));unfold Builtin.Dict_items.newIterator;refine Zaa (wpAny_dictEntries e1 e3 (Zaa (wpAny_dictEpoch e1 e3 ?_)));simp only[show Builtin.Dict_items.ownsTuple "dict_itemiterator"=true by decide,ZbI]
 refine wpAny_newObj_type (Zaf ⟨_,rfl,"dict_itemiterator",_,⟨_,Zar _ rfl,rfl⟩,Za5.lookup,?_⟩)
  (by simp only[sizeOk,Builtin.Dict_items.ownedTupleFields,List.size_toArray,List.length_append,Zaz,ZbM,sizeLine_eq];omega)
 simpa[rawInt,Builtin.Dict_items.ownedTupleFields] using q
theorem K3{x:DictEntry}{ok ov:Value}{Q:Option Value->Shared->Prop}(hit:IsItemIter s.heap it d i es.size ep ok ov)(r:oN s.heap d es ep)(hx:es[i]?=some x)
  (q:∀ h',IsItemIterOut h' it d (i+1) es.size ep x.key x.val s.heap.objs.size->h'.get? s.heap.objs.size=some { cls:=.type "tuple",data:=.seq #[x.key,x.val] } ->
   (∀ b o,b≠it->s.heap.get? b=some o->h'.get? b=some o)->Q (some (.ref s.heap.objs.size)) { s with heap:=h' }):wpAny (model prog w) A (pyNext (.ref it)) Q E s:=by
 obtain⟨hp,g,dr,tk,os⟩:=s;obtain⟨o,e1,e2,e3⟩:=id r;have lt:i<es.size:=by
  rcases Nat.lt_or_ge i es.size with z|z
  ·exact z
  ·rw[ZbU z] at hx;cases hx
 have ex:es[i]=x:=by rw[ZaE lt] at hx;exact Zab hx
 have hT:Shared.TypeIs ⟨hp,g,dr,tk,os⟩ (.ref it) "dict_itemiterator":=⟨_,hit,rfl⟩;unfold pyNext;refine Zaa (wpAny_attempt (wpAny_callSpecial?_slot (name:=Str.ofString "__next__") hT Za5 (wpAny_call_entry Za5 hT PySem.F.entry_dict_itemiterator_next ?_ (PySem.F.args_dict_itemiterator_next_1 _))));refine Zaa (Zaf (Zaa (Zaa ?_)))
 first
  |refine Zaa (wpAny_typeNameOfWhole_itemiter hT (Zaf ?_))
  |refine Zaa (wpAny_typeNameOf_itemiter hT (Zaf ?_))
 refine Zaa (wpAny_fieldsOf hit rfl ?_);simp only[show Builtin.Dict_items.ownsTuple "dict_itemiterator"=true by decide,ZbI]
 show wpAny _ _ (if(Value.ref d==.none)=true then _ else _) _ _ _
 rw[Zae (show ¬(Value.ref d==.none)=true from Zbf)];refine Zaa (Zaf (Zaa (wpAny_dictEntries e1 e3 ?_)));rw[Zae (by simp)]
 refine Zaa (Zaf (Zaa (wpAny_dictEpoch e1 e3 ?_)));rw[Zae (by simp)]
 refine Zaf ?_;simp only[show ¬((i:Int)<0) by omega,Zbh,ZaQ,ZaE lt]
 refine Zaa ?_
 first
  |refine Zaa (wpAny_typeNameOfWhole_itemiter hT (Zaf ?_))
  |refine Zaa (wpAny_typeNameOf_itemiter hT (Zaf ?_))
 refine Zaa (wpAny_isOneOf_itemiter hT ?_);show wpAny _ _ (setField (.ref it) 3 (rawInt ((i:Int)+1))>>=_) _ _ ⟨hp,g,dr,tk,os⟩
 refine Zaa (wpAny_setField_rec hit (by simp) λh1 f1 s1=>?_)
 replace s1:Heap.SameBut it hp h1:=s1;replace f1:IsItemIter h1 it d (i+1) es.size ep ok ov:=by
  have e:((i+1:Nat):Int)=(i:Int)+1:=by omega
  unfold IsItemIter;rw[e];simpa[rawInt] using f1
 have hT1:Shared.TypeIs ⟨h1,g,dr,tk,os⟩ (.ref it) "dict_itemiterator":=⟨_,f1,rfl⟩;refine Zaa (wpAny_holding (Zaa (wpAny_isOneOf_itemiter hT1 (Zaa (wpAny_isOneOf_itemiter hT1 ?_)))));show wpAny _ _ (Builtin.Dict_items.pairFromOwner (.ref it) 6 es[i].key es[i].val) _ _ ⟨h1,g,dr,tk,os⟩
 rw[ex];unfold Builtin.Dict_items.pairFromOwner;refine Zaa (wpAny_newTuple ?_);have z1:h1.objs.size=hp.objs.size:=s1.1;have il:it<hp.objs.size:=Zam hit;have f2:IsItemIter (h1.push { cls:=.type "tuple",data:=.seq #[x.key,x.val] }) it d (i+1) es.size ep ok ov:=Zad _ f1;generalize hh:h1.push { cls:=.type "tuple",data:=.seq #[x.key,x.val] }=h2 at f2
 have t2:h2.get? hp.objs.size=some { cls:=.type "tuple",data:=.seq #[x.key,x.val] }:=by rw[<-hh,<-z1];exact Zar _ rfl
 have k2:∀ b o,b≠it->hp.get? b=some o->h2.get? b=some o:=λb o hb e=>by rw[<-hh];exact Zad _ (s1.extBut b o hb e)
 show wpAny _ _ (Builtin.Dict_items.ownedTupleIsFree (.ref it)>>=_) _ _ ⟨h2,g,dr,tk,os⟩
 rw[z1];clear hh f1 s1 hT1 z1 h1
 refine Zaa ?_;unfold Builtin.Dict_items.ownedTupleIsFree;refine Zaa (wpAny_field f2 rfl (x:=.none) rfl (Zaf ?_));simp only[ZbI];refine Zaa (wpAny_field f2 rfl (x:=ok) rfl (Zaa (wpAny_field f2 rfl (x:=ov) rfl ?_)));refine Zaa (wpAny_setField_rec f2 (by simp) λh3 f3 s3=>?_)
 replace s3:Heap.SameBut it h2 h3:=s3;replace f3:IsItemIter h3 it d (i+1) es.size ep x.key ov:=f3;refine Zaa (wpAny_setField_rec f3 (by simp) λh4 f4 s4=>?_)
 replace s4:Heap.SameBut it h3 h4:=s4;replace f4:IsItemIter h4 it d (i+1) es.size ep x.key x.val:=f4;refine Zaa (wpAny_setField_rec f4 (by simp) λh5 f5 s5=>?_)
 replace s5:Heap.SameBut it h4 h5:=s5;replace f5:IsItemIterOut h5 it d (i+1) es.size ep x.key x.val hp.objs.size:=f5;refine Zaa (wpAny_setField_rec f5 (by simp) λh6 f6 s6=>?_)
 replace s6:Heap.SameBut it h5 h6:=s6;replace f6:IsItemIterOut h6 it d (i+1) es.size ep x.key x.val hp.objs.size:=f6;have old:∀ b o,b≠it->h2.get? b=some o->h6.get? b=some o:=λb o hb e=>s6.extBut b o hb (s5.extBut b o hb (s4.extBut b o hb (s3.extBut b o hb e)));exact Zaa (wpAny_letGo (Zaf (Zaf ⟨_,rfl,Zaf (q h6 f6 (old _ _ (ZbX il) t2) λb o hb e=>old b o hb (k2 b o hb e))⟩)))
theorem Ou{ok ov:Value}{Q:Option Value->Shared->Prop}(hh:A.handled=none)(hit:IsItemIter s.heap it d es.size es.size ep ok ov)(r:oN s.heap d es ep)
  (q:∀ h',Heap.ExtBut it s.heap h'->Q none { s with heap:=h' }):wpAny (model prog w) A (pyNext (.ref it)) Q E s:=by
 obtain⟨o,e1,e2,e3⟩:=id r;have hT:s.TypeIs (.ref it) "dict_itemiterator":=⟨_,hit,rfl⟩;unfold pyNext;refine Zaa (wpAny_attempt (wpAny_callSpecial?_slot (name:=Str.ofString "__next__") hT Za5 (wpAny_call_entry Za5 hT PySem.F.entry_dict_itemiterator_next ?_ (PySem.F.args_dict_itemiterator_next_1 _))));refine Zaa (Zaf (Zaa (Zaa ?_)))
 first
  |refine Zaa (wpAny_typeNameOfWhole_itemiter hT (Zaf ?_))
  |refine Zaa (wpAny_typeNameOf_itemiter hT (Zaf ?_))
 refine Zaa (wpAny_fieldsOf hit rfl ?_);simp only[show Builtin.Dict_items.ownsTuple "dict_itemiterator"=true by decide,ZbI]
 show wpAny _ _ (if(Value.ref d==.none)=true then _ else _) _ _ _
 rw[Zae (show ¬(Value.ref d==.none)=true from Zbf)];refine Zaa (Zaf (Zaa (wpAny_dictEntries e1 e3 ?_)));rw[Zae (by simp)]
 refine Zaa (Zaf (Zaa (wpAny_dictEpoch e1 e3 ?_)));rw[Zae (by simp)]
 refine Zaf ?_;simp only[show ¬((es.size:Int)<0) by omega,Zbh,ZaQ,ZbU (Zai _)]
 refine Zaa ?_
 first
  |refine Zaa (wpAny_typeNameOfWhole_itemiter hT (Zaf ?_))
  |refine Zaa (wpAny_typeNameOf_itemiter hT (Zaf ?_))
 show wpAny _ _ (setField (.ref it) 2 .none>>=_) _ _ s
 refine Zaa (wpAny_setField hit rfl (by simp) ?_)
 show wpAny _ _ (newExc (.type "StopIteration") []>>=_) _ _ _
 refine Zaa ?_;simp only[newExc,newTuple];refine Zaa (wpAny_newObj_type ?_ (by size_fits))
 refine Zaa (m:=firstArgMember _ _) (wpAny_of_eq (a:=Value.none) (by first|rfl|(simp only[firstArgMember];rfl)) (wpAny_newObj_type ?_ (by size_fits)))
 simp only[raiseNew];refine Zaa (wpAny_handled ?_);rw[show A.in1.handled=none from hh];refine Zaa (Zaf (wpAny_throw ?_));refine Zaa (wpAny_isInstance (T:="StopIteration") (b:=true) ⟨_,Zar _ rfl,rfl⟩ isSubtype_stop ?_);exact Zaf (q _ (((ZbF ..).extBut.push _).push _))
end
def Xc(a:Addr)(raw:Obj)(kvs:List (List Key×V)):It:=
 ⟨λi H=>H a=some (.frz raw (.dT kvs))/\i<kvs.length,λi H x H'=>∃ p kv b,H p=none/\kvs[i]?=some kv/\H b=some (.tup (kv.1.map kV))/\x=.ref p/\H'=upd H p (.tup [.ref b,kv.2]),λi H=>H a=some (.frz raw (.dT kvs))/\i=kvs.length⟩
theorem Eo{P:Program}{w:World}{K:PySem.W.Frag}{elts:List Expr}{x1:Nat}{pos:Pos}(a it:Addr)(raw:Obj)(kvs:List (List Key×V)){es:Array DictEntry}{ep:Nat}(hd:raw.data=.dict es ep) :
  Turn P w K (.Tuple elts x1 pos) (Xc a raw kvs) [it] it (λi h=>∃ ok ov,IsItemIter h it a i kvs.length ep ok ov) where
 mem:=by simp
 obj:=λi h st b hb=>by
  have e:b=it:=by simpa using hb
  subst e;obtain⟨ok,ov,e⟩:=st;exact⟨_,e,λv z=>by cases z⟩
 keep:=λi h h' st k=>by
  obtain⟨ok,ov,e⟩:=st;exact⟨ok,ov,k it (by simp) _ e⟩
 item:=by
  intro X hP hw hK hc i pins s σ H E I hf st hg;subst hP hw hK;obtain⟨e,hi⟩:=hg;obtain⟨ok,ov,ei⟩:=st;obtain⟨f0,f1,f2,f3,f4,f5⟩:=hf it (by simp)
  obtain⟨_,rd,hl,at_⟩:=j9 I.hok e hd;obtain⟨p,hp⟩:∃ p,kvs[i]?=some p:=⟨_,List.getElem?_eq_getElem hi⟩;obtain⟨b,u,y,y1,y2,y3,y4,y5⟩:=at_ i p hp;refine K3 (by rw[hl];exact ei) rd y1 λh3 e3 n3 k3=>?_
  refine⟨_,rfl,wpAny_letOwnedTupleGo_items e3 λh4 e4 s4=>?_⟩;have ilt:it<s.heap.objs.size:=Zam ei;have hT2:IsPair h4 s.heap.objs.size (.ref b) u:=by rw[<-y2,<-y3];exact(s4.2 _ (ZbX ilt)).trans n3
  refine⟨.ref s.heap.objs.size,upd H s.heap.objs.size (.tup [.ref b,p.2]),I.sV (ch:=[it]) (λb' o hb q=>?_) hf (Zai _) ⟨by show 2<=sizeLine;decide,[.ref b,u],.cons rfl (.cons y5 .nil),fu.mk hT2⟩,rfl,⟨_,p,b,I.hok.fresh (Zai _),hp,y4,rfl,rfl⟩,⟨y.key,y.val,by rw[<-hl];exact e4⟩,λb' hb=>?_⟩
  ·have q1:b'≠it:=λe=>hb (by simp[e])
   exact(s4.2 b' q1).trans (k3 b' o q1 q)
  ·have e:b'=it:=by simpa using hb
   subst e;rw[aq (ZaD ilt)];exact f0
 done:=by
  intro X hP hw hK hc i pins s σ H E I hf st hg;subst hP hw hK;obtain⟨e,hi⟩:=hg;obtain⟨ok,ov,ei⟩:=st;obtain⟨_,rd,hl,at_⟩:=j9 I.hok e hd;subst hi;refine Ou (I.ok.hd hc) (by rw[hl];exact ei) rd λh' k=>⟨rfl,?_⟩
  exact I.qC (t':=s.toks) (ch:=[it]) (λb' o hb q=>k b' o (λe=>hb (by simp[e])) q) hf
 self:=λA i s Q E st h=>by
  obtain⟨ok,ov,e⟩:=st;exact PySem.W.kcp_self e h
def Jq(tl:TE):TI:=λσ H R=>tl σ H λx H1=>∃ a raw kvs,x=.ref a/\H1 a=some (.frz raw (.dT kvs))/\R (Xc a raw kvs) H1
theorem zm{X:Cx}{o:Expr}{apos cpos tpos:Pos}{elts:List Expr}{x1:Nat}{tl:TE}(hl:PE X o tl)(hbase:attributeBase o "items" X.env (eval o X.env)=eval o X.env:=by rfl)(hline:(apos.endLine==cpos.line)=true:=by rfl) :
  PI X (.Tuple elts x1 tpos) (.Call (.Attribute o "items" apos) [] [] cpos) (Jq tl):=by
 intro pins s σ H R I h;refine wpAny_Call_method (T:="dict") (id:="dict.items") hbase rfl hline PySem.F.plainAttrs_dict PySem.F.slot_dict_items PySem.F.type_dict_items (thn (hl pins s σ H _ I h) ?_);rintro u s1 ⟨x,H1,I1,rx,q1⟩;obtain⟨a,raw,kvs,e,ha,q⟩:=q1;subst e;obtain rfl:u=Value.ref a:=rx;obtain⟨t1,t2,_⟩:=GJ I1 (.inr ⟨kvs,.inr ⟨raw,ha⟩⟩);refine⟨t1,t2,?_⟩;obtain⟨es,ep,hd⟩:=Jo I1.hok ha;obtain⟨hs,rd,hl,at_⟩:=j9 I1.hok ha hd;show wpAny _ _ (callWith cpos (.builtin "dict.items") [.ref a] [] []) _ _ s1
 refine method_meetsIn PySem.F.slot_dict_items PySem.F.entry_dict_items rfl (PySem.evalArgs_none ⟨rfl,t1,PySem.F.args_dict_items_1 _,_,KZ hs,t1,?_⟩);have hsz:(s1.heap.push { cls:=.type "dict_items",data:=.fields #[.ref a] }).objs.size=s1.heap.objs.size+1:=Heap.size_push ..;refine K1 (d:=a) (es:=es) (ep:=ep) ⟨_,Zar _ rfl,rfl,rfl⟩ (rd.step λo e=>Zad _ e) ?_;refine⟨(s1.heap.push { cls:=.type "dict_items",data:=.fields #[.ref a] }).objs.size,[(s1.heap.push { cls:=.type "dict_items",data:=.fields #[.ref a] }).objs.size],_,_,H1,rfl,I1.kept (t':=s1.toks) λb o e=>Zad _ (Zad _ e),Eo a _ raw kvs hd,⟨.none,.none,?_⟩,λb hb=>?_,q⟩
 ·rw[<-hl];exact Zar _ rfl
 ·have e:b=s1.heap.objs.size+1:=by simpa[hsz] using hb
  subst e;exact I1.CJ (ZbZ _) (I1.hok.fresh (ZbZ _))
namespace MP
def lG(l:List (List Key×PV)):List PV:=l.map λkv=>.tup [oV kv.1,kv.2]
def rG:PV->Option (Res (List PV))
 |.dt l=>some (.ok (lG l))
 |_=>none
section
variable{K:PySem.W.Frag}{C:Cg}
theorem wI(i:Nat):Rm K C i (Jq (iZ i)) (m1 rG (mV i)):=by
 intro F H σ ρ R' r R hh e P;rcases bK e with⟨z,e1,rfl⟩|⟨p,e1,hk⟩
 ·unfold mV at e1;split at e1
  ·cases e1
  ·cases e1
 obtain⟨a,raw,u,ev,fa,hu⟩:=hh;have hp:ρ[i]?=some (some (.sh p)):=by
  unfold mV at e1;split at e1
  ·rename_i q hq;cases e1;exact hq
  ·cases e1
 match p,hk with
 |.dt l,hk=>
  cases hk;obtain⟨v,ev',rv⟩:=R.sh i _ hp;rw[ev] at ev';cases ev';cases rv with
  |@dt _ xs _ h hl hr=>
   have hx:u=.dT xs:=by
    rcases h with h|⟨o,h⟩
    ·rw[fa] at h;cases h
    ·rw[fa] at h;cases h;rfl
   subst hx;have len:xs.length=l.length:=by have:=Zbd List.length hl;simpa using this
   refine⟨_,ev,a,raw,xs,rfl,R.rb.sub _ _ fa,P _ F H (Up.refl R.rb.sub) ⟨λF' H' s s'=>?_,λj F' H' hj s s'=>?_,λj F' H' x H'' hj s s' y=>?_⟩⟩
   ·exact⟨s' _ _ (s _ _ fa),by unfold lG;rw[List.length_map];exact len.symm⟩
   ·refine⟨s' _ _ (s _ _ fa),?_⟩;unfold lG at hj;rw[List.length_map] at hj;omega
   ·obtain⟨p,kv,b,hp,hkv,hb,rfl,rfl⟩:=y;have hl2:(l.map (·.1))[j]?=some kv.1:=by rw[<-hl,List.getElem?_map,hkv];rfl
    rw[List.getElem?_map] at hl2;cases q:l[j]? with
    |none=>rw[q] at hl2;cases hl2
    |some w=>
     rw[q] at hl2;have ew:w.1=kv.1:=Zab hl2;have u0:=Up.TY s';have un:=Up.new (o:=.tup [.ref b,kv.2]) u0.fh hp;refine⟨_,.tup [oV w.1,w.2],u0.trans un,?_,.tup au rfl λn x p' hx hp'=>?_⟩
     ·unfold lG;rw[List.getElem?_map,q];rfl
     ·match n with
      |0=>simp at hx hp';subst hx hp';rw[ew];exact(En hb).up un.ff
      |1=>simp at hx hp';subst hx hp';exact(hr j _ _ hkv q).up (s.trans (u0.ff.trans un.ff))
      |n+2=>simp at hx
end
end MP
namespace MP
end MP
end L2
namespace L2.MP
section
variable{α:Type}{us:List α}
theorem len0(h:us.length=0):us=[]:=List.length_eq_zero_iff.mp h
theorem RT{n:Nat}(h:us.length=n+1):∃ a vs,us=a::vs/\vs.length=n:=by
 cases us with
 |nil=>cases h
 |cons a vs=>exact⟨a,vs,rfl,Nat.succ.inj h⟩
theorem Ov(h:us.length=1):∃ a,us=[a]:=by
 obtain⟨a,vs,rfl,h2⟩:=RT h;cases len0 h2;exact⟨a,rfl⟩
theorem xY(h:us.length=2):∃ a b,us=[a,b]:=by
 obtain⟨a,vs,rfl,h2⟩:=RT h;obtain⟨b,rfl⟩:=Ov h2;exact⟨a,b,rfl⟩
theorem xZ(h:us.length=3):∃ a b c,us=[a,b,c]:=by
 obtain⟨a,vs,rfl,h2⟩:=RT h;obtain⟨b,c,rfl⟩:=xY h2;exact⟨a,b,c,rfl⟩
theorem Xd(h:us.length=4):∃ a b c d,us=[a,b,c,d]:=by
 obtain⟨a,vs,rfl,h2⟩:=RT h;obtain⟨b,c,d,rfl⟩:=xZ h2;exact⟨a,b,c,d,rfl⟩
end
end L2.MP
namespace L2
open PySem PySem.Spec PyProof PyProof.Rows
end L2
namespace L2.MP
open PySem PySem.Spec PyProof PyProof.Rows
end L2.MP
namespace L2.SE
open PySem
def Inc(xs:Array Nat):Prop:=xs.toList.Pairwise (·<·)
structure Good(b:Bool)(t:SetTable):Prop where
 led:t.led=b
 dum:t.dummies=#[]
 inc:Inc t.place
open PySem PySem.Spec PyProof PyProof.Rows
section
variable{prog:Program}{w:World}{K:Type}[DecidableEq K](knd:KeyKind prog w K)
def Apart(l:List (Int×Value)):Prop:=l.Pairwise λe f=>∀ k,knd.is k e.2=true->knd.is k f.2=true->False
structure Els(S:K->Bool)(es:Array (Int×Value)):Prop where
 el:ElemsOf knd es.toList
 ap:Apart knd es.toList
 mem:∀ k,S k=true↔∃ e∈es.toList,knd.is k e.2=true
def Yg(h:Heap)(a:Addr)(b:Bool)(S:K->Bool)(n:Nat):Prop:=
 ∃ o es ep t,h.get? a=some o/\o.ExactSet/\o.data=.set es ep t/\Els knd S es/\es.size<scanBound/\t.fits es.size=true/\Good b t/\es.size<=n
variable{knd}{S:K->Bool}{a:Addr}{b:Bool}{n:Nat}
theorem lay{h:Heap}{o:Obj}{es:Array (Int×Value)}{ep:Nat}{t:SetTable}(ho:h.get? a=some o)(hex:o.ExactSet)(hd:o.data=.set es ep t){es':Array (Int×Value)}{t':SetTable}
  (x:Els knd S es')(hb:es'.size<scanBound)(hf:t'.fits es'.size=true)(g:Good b t')(hn:es'.size<=n) :
  (h.update a (Obj.putSet es' t')).get? a=some { o with data:=.set es' (ep+1) t' }/\Yg knd (h.update a (Obj.putSet es' t')) a b S n:=by
 have q:=(SetOf_store (knd:=knd) ho hex hd x.el x.mem hb hf).1;exact⟨q,_,es',ep+1,t',q,hex,rfl,x,hb,hf,g,hn⟩
end
open PySem PySem.Spec PyProof PyProof.Rows
section
variable{K:Type}[DecidableEq K]
def seen(key:Nat->K)(i:Nat):K->Bool:=λk=>(List.range i).any λj=>decide (k=key j)
end
open PySem PySem.Spec PyProof PyProof.Rows
def It(h:Heap)(I:Addr)(f:Value)(i:Nat)(a:Addr)(n ep:Nat):Prop:=∃ o,h.get? I=some o/\o.cls=.type "set_iterator"/\o.data=.fields #[f,.int i 0,.ref a,.int n 0,.int ep 0]
open PySem PySem.Spec PyProof PyProof.Rows
open PySem PySem.Spec PyProof PyProof.Rows
open PySem PySem.Spec PyProof PyProof.Rows
def slots(t:SetTable):Nat->Nat
 |0=>0
 |i+1=>t.place.getD i 0+1
end L2.SE
namespace L2
open PySem PySem.Spec PyProof PyProof.Rows
def dd:List Int->List Int
 |[]=>[]
 |x::l=>if x∈l then dd l else x::dd l
namespace MP
end MP
namespace MP
end MP
end L2
namespace L2.MP
open PySem PySem.Spec PyProof.Rows
structure yc(X:Cx)(pins:List (Addr×Obj))(b:Addr):Prop where
 sz:X.s₀.heap.objs.size<=b
 loc:b≠X.env.locals
 cl:∀ x c,X.env.cells.lookup x=some c->c≠b
 pn:∀ p∈X.pn++pins,p.1≠b
structure Fly(X:Cx)(pins:List (Addr×Obj))(H:Hp)(h:Heap)(e:Addr)(C:Value)(d:Option Addr):Prop where
 own:yc X pins e
 nh:H e=none
 ob:∃ oe vs,h.get? e=some oe/\oe.cls=C/\oe.dict=d/\oe.slots=#[]/\oe.data=.fields vs/\1<vs.size /\
  (vs[1]?=some .none\/∃ T oT ts,vs[1]?=some (.ref T)/\T≠e/\yc X pins T/\H T=none/\h.get? T=some oT/\oT.data=.fields ts/\3<ts.size)
def T3(h:Heap)(e:Addr):Prop:=∃ oe vs T,h.get? e=some oe/\oe.data=.fields vs/\vs[1]?=some (.ref T)
section
variable{X:Cx}{pins:List (Addr×Obj)}{σ:St}{H:Hp}{s:Shared}{e:Addr}{C:Value}{d:Option Addr}
theorem rH(I:Inv X pins σ H s){b:Addr}(h:s.heap.objs.size<=b):yc X pins b where
 sz:=ZaF I.sz h
 loc:=λz=>by have:=I.lt;rw[<-z] at this;exact absurd (Zap this h) (Zbp _)
 cl:=λx c q z=>by
  obtain⟨v,o,ho,_⟩:=I.cell x c q;have:=Zam ho;rw[z] at this;exact absurd (Zap this h) (Zbp _)
 pn:=λp hp z=>by
  have:=Zam (I.pin p hp).1;rw[z] at this;exact absurd (Zap this h) (Zbp _)
theorem yc.ch(m:yc X pins e):(e∈X.ex\/X.s₀.heap.objs.size<=e)/\e≠X.env.locals/\(∀ x c,X.env.cells.lookup x=some c->c≠e)/\∀ p∈X.pn++pins,p.1≠e:=⟨.inr m.sz,m.loc,m.cl,m.pn⟩
theorem yc.Ul(I:Inv X pins σ H s)(m:yc X pins e):e ∉ frs X.stack:=λhb=>by
 rcases Zaw.mp (I.zP e hb) with z|z
 ·exact m.loc z
 ·obtain⟨_,o,ho,_⟩:=I.ok.pH.mem z;exact absurd (Zap (Zam ho) m.sz) (Zbp _)
theorem Inv.Xe(I:Inv X pins σ H s){h':Heap}(m:yc X pins e)(nh:H e=none)(k:∀ b o,b≠e->s.heap.get? b=some o->h'.get? b=some o):Inv X pins σ H { s with heap:=h' }:=by
 refine I.call (g':=s.gens) (d':=s.drawn) (t':=s.toks) (ch:=[e]) ⟨λb o q _ _ hc=>k b o (λz=>hc (by simp[z])) q,λb o q _ _ hc=>⟨o.slots,k b o (λz=>hc (by simp[z])) q⟩,λ_ _ _ n _=>n,λb o q hc=>⟨o,k b o (λz=>hc (by simp[z])) q⟩,λ_ _ q=>q,λ_ _ _ q=>q,λb ps q=>⟨#[],by rw[q];simp⟩⟩ ?_ I.bare λb hb=>?_
 ·intro b u q;refine(I.hok b u q).stay (λc v hc z=>k c v ?_ z) (λ_ z=>z) λ_ _ z=>z;rcases hc with z|z
  ·rw[z];intro y;rw[y,nh] at q;cases q
  ·intro y;rw[y,nh] at z;cases z
 ·obtain rfl:b=e:=by simpa using hb
  exact m.ch
variable{M:Model}{E':Value->Shared->Prop}
theorem zp{Q:Unit->Shared->Prop}{head:Value}{hadNext:Bool}(I:Inv X pins σ H s)(hs:X.stack=X.env::X.outer)(hf:X.env.frame=some X.env.locals)(m:yc X pins e)(nh:H e=none)
  {oe:Obj}{vs:Array Value}(he:s.heap.get? e=some oe)(hc:oe.cls=C)(hdd:oe.dict=d)(hsl:oe.slots=#[])(hd:oe.data=.fields vs)(hsz:1<vs.size)
  (k:∀ s',Inv X pins σ H s'->Fly X pins H s'.heap e C d->T3 s'.heap e->Q () s') :
  wpAny M X.A (do let a <-frameOf X.env;let pl <-entryPlaceOf X.env.locals hadNext;let b <-EntryCells.newEntry head a .none (rawInt X.env.locals) .none pl;setField (.ref e) 1 b) Q E' s:=by
 have hfr:X.A.frames=some (X.env::X.outer):=by rw[<-hs];exact I.ok.frames
 have hl:s.heap.FunFrames X.base (X.env::X.outer):=by rw[<-hs];exact I.stack
 have hfe:(X.env::X.outer).filterMap (·.frame)=frs X.stack:=by rw[hs];rfl
 refine Zaa (wpAny_frameOf_fun hfr hl hf λh₁ hs₁=>?_);rw[hfe] at hs₁;refine Zaa (wpAny_entryPlaceOf λpl hpl=>?_);unfold EntryCells.newEntry newFields;refine Zaa (wpAny_newObj_type ?_ (hpl.sizeOk5 _ _ _ _ _));have nf:=m.Ul I;have he₁:h₁.get? e=some oe:=(hs₁.2.1 e nf).trans he;have he₂:=Zad (h:=h₁) { cls:=.type "traceback",dict:=none,data:=.fields ([head,.ref X.env.locals,.none,rawInt X.env.locals,.none]++(if pl.isEmpty then List.replicate 6 Value.none else pl)).toArray } he₁;refine wpAny_setField he₂ hd hsz ?_;have hTe:h₁.objs.size≠e:=ZbX (Zam he₁);have hd₃:=Obj.data_mapFields hd (·.setIfInBounds 1 (Value.ref h₁.objs.size));have he₃:=ZbJ (Obj.mapFields (·.setIfInBounds 1 (Value.ref h₁.objs.size))) he₂ (Obj.isFreed_of_fields hd₃);have hT₃:=(ZbH (h₁.push { cls:=.type "traceback",dict:=none,data:=.fields ([head,.ref X.env.locals,.none,rawInt X.env.locals,.none]++(if pl.isEmpty then List.replicate 6 Value.none else pl)).toArray })
  (Obj.mapFields (·.setIfInBounds 1 (Value.ref h₁.objs.size))) (ZaX hTe)).trans (Zar h₁ rfl)
 have keep:∀ b o,b≠e->h₁.get? b=some o->((h₁.push { cls:=.type "traceback",dict:=none,data:=.fields ([head,.ref X.env.locals,.none,rawInt X.env.locals,.none]++(if pl.isEmpty then List.replicate 6 Value.none else pl)).toArray }).update e (Obj.mapFields (·.setIfInBounds 1 (Value.ref h₁.objs.size)))).get? b=some o:=λb o hbe hb=>by
  rw[ZbH _ _ (ZaX hbe)];exact Zad _ hb
 have J:∀ h':Heap,(∀ b o,b≠e->h₁.get? b=some o->h'.get? b=some o)->Inv X pins σ H { s with heap:=h' }:=λh' keep=>by
  refine I.call (g':=s.gens) (d':=s.drawn) (t':=s.toks) (ch:=[e]) ⟨λb o q _ hb hc=>keep b o (λz=>hc (by simp[z])) ((hs₁.2.1 b hb).trans q),λb o q _ _ hc=>?_,λ_ _ _ n _=>n,λb o q hc=>?_,λ_ _ q=>q,λ_ _ _ q=>q,λb ps q=>⟨#[],by rw[q];simp⟩⟩ ?_ I.bare λb hb=>?_
  ·obtain⟨sl,z⟩:=hs₁.2.2 b o q;exact⟨sl,keep b _ (λz=>hc (by simp[z])) z⟩
  ·obtain⟨sl,z⟩:=hs₁.2.2 b o q;exact⟨_,keep b _ (λz=>hc (by simp[z])) z⟩
  ·intro b u q;refine(I.hok b u q).stay (λc v hc z=>keep c v ?_ ((hs₁.2.1 c ?_).trans z)) (λ_ z=>z) λ_ _ z=>z
   ·rcases hc with y|y
    ·rw[y];intro y;rw[y,nh] at q;cases q
    ·intro z;rw[z,nh] at y;cases y
   ·intro hm;have n:=I.zQ c hm;rcases hc with y|y
    ·rw[<-y,n] at q;cases q
    ·rw[n] at y;cases y
  ·obtain rfl:b=e:=by simpa using hb
   exact m.ch
 have mT:yc X pins h₁.objs.size:=rH I (by rw[hs₁.1];exact Zai _)
 have nT:H h₁.objs.size=none:=I.hok.fresh (by rw[hs₁.1];exact Zai _)
 refine k _ ?_ ⟨m,nh,_,_,he₃,?_,?_,?_,hd₃,by simpa using hsz,.inr ⟨h₁.objs.size,_,_,by simp[hsz],hTe,mT,nT,hT₃,rfl,?_⟩⟩ ⟨_,_,h₁.objs.size,he₃,hd₃,by simp[hsz]⟩
 ·exact J _ keep
 ·rw[Obj.cls_mapFields];exact hc
 ·obtain⟨c,dd,dt,sl⟩:=oe;cases dt<;>first|exact hdd|cases hd
 ·obtain⟨c,dd,dt,sl⟩:=oe;cases dt<;>first|exact hsl|cases hd
 ·simp only[List.size_toArray,List.length_append,Zaz,ZbM];omega
theorem Ep{Q:Unit->Shared->Prop}(I:Inv X pins σ H s)(hs:X.stack=X.env::X.outer)(hf:X.env.frame=some X.env.locals)(fl:Fly X pins H s.heap e C d)
  (k:∀ s',Inv X pins σ H s'->Fly X pins H s'.heap e C d->T3 s'.heap e->Q () s'):wpAny M X.A (noteFrame (.ref e) X.env) Q E' s:=by
 obtain⟨m,nh,oe,vs,he,hc,hdd,hsl,hd,hsz,h1⟩:=id fl;unfold noteFrame;simp only[hf];rcases h1 with h1|⟨T,oT,ts,h1,hTe,mT,nT,hT,hdT,h3⟩
 ·refine Zaa (wpAny_field he hd h1 ?_);rw[Zae (by decide)]
  exact zp I hs hf m nh he hc hdd hsl hd hsz k
 ·refine Zaa (wpAny_field he hd h1 ?_);rw[Zag (show(Value.ref T != Value.none)=true from by simp)]
  have h3':ts[3]?=some ts[3]:=by simp[h3]
  refine Zaa (wpAny_field hT hdT h3' ?_);by_cases hz:(ts[3]==rawInt X.env.locals)=true
  ·rw[Zag hz];exact Zaf (k s I fl ⟨oe,vs,T,he,hd,h1⟩)
  ·rw[Zae hz];refine Zaa (wpAny_setField hT hdT h3 ?_);have other:∀ b,b≠T->(s.heap.update T (Obj.mapFields (·.setIfInBounds 3 Value.none))).get? b=s.heap.get? b:=λb hb=>ZbH _ _ (ZaX hb);have I1:=Inv.Xe I mT nT (h':=s.heap.update T (Obj.mapFields (·.setIfInBounds 3 Value.none))) λb o hb q=>(other b hb).trans q;exact zp I1 hs hf m nh ((other e (ZaX hTe)).trans he) hc hdd hsl hd hsz k
theorem pX{Q:Unit->Shared->Prop}{fr:Option Addr}(I:Inv X pins σ H s)(fl:Fly X pins H s.heap e C d)
  (k:∀ s',Inv X pins σ H s'->Fly X pins H s'.heap e C d->Q () s'){A:Around}:wpAny M A (setFlight (.ref e) fr) Q E' s:=by
 obtain⟨m,nh,oe,vs,he,hc,hdd,hsl,hd,hsz,h1⟩:=id fl;unfold setFlight;rcases h1 with h1|⟨T,oT,ts,h1,hTe,mT,nT,hT,hdT,h3⟩
 ·refine Zaa (wpAny_field he hd h1 ?_);rw[Zae (by decide)]
  exact Zaf (k s I fl)
 ·refine Zaa (wpAny_field he hd h1 ?_);rw[Zag (show(Value.ref T != Value.none)=true from by simp)]
  refine wpAny_setField hT hdT h3 ?_;have hd₃:=Obj.data_mapFields hdT (·.setIfInBounds 3 (fr.elim Value.none λf=>rawInt f));have other:∀ b,b≠T->(s.heap.update T (Obj.mapFields (·.setIfInBounds 3 (fr.elim Value.none λf=>rawInt f)))).get? b=s.heap.get? b:=λb hb=>ZbH _ _ (ZaX hb);refine k _ (Inv.Xe I mT nT λb o hb q=>(other b hb).trans q) ⟨m,nh,oe,vs,(other e (ZaX hTe)).trans he,hc,hdd,hsl,hd,hsz,.inr ⟨T,_,_,h1,hTe,mT,nT,ZbJ _ hT (Obj.isFreed_of_fields hd₃),hd₃,by simpa using h3⟩⟩
end
def FlS(X:Cx)(pins:List (Addr×Obj))(σ:St)(E:XK)(ev:Value)(s':Shared):Prop:=∃ e C d H',ev=.ref e/\Inv X pins σ H' s'/\Fly X pins H' s'.heap e C d/\E C d H'
def FlX(X:Cx)(E:XK)(ev:Value)(s':Shared):Prop:=∃ pins σ,FlS X pins σ E ev s'
structure Yh(n:Nat)(H:Hp)(h:Heap)(e:Addr)(C:Value)(d:Option Addr):Prop where
 sz:n<=e
 nh:H e=none
 ob:∃ oe vs,h.get? e=some oe/\oe.cls=C/\oe.dict=d/\oe.slots=#[]/\oe.data=.fields vs/\1<vs.size /\
  (vs[1]?=some .none\/∃ T oT ts,vs[1]?=some (.ref T)/\T≠e/\n<=T/\H T=none/\h.get? T=some oT/\oT.data=.fields ts/\3<ts.size)
def CXS(P:Program)(w:World):CXT:=λouter H s E ev s'=>∃ e C d H',ev=.ref e/\s'.os=s.os/\AllBare s'.gens/\Un (frs outer) [] H H' s.heap s'.heap/\HOk P w H' s'.heap/\Yh s.heap.objs.size H' s'.heap e C d/\E C d H'
section
variable{X:Cx}{pins:List (Addr×Obj)}{σ:St}{H:Hp}{s s':Shared}{E:XK}{ev:Value}
theorem FlS.RV(I:Inv X pins σ H s)(h:CXS X.prog X.w X.stack H s E ev s'):FlS X pins σ E ev s':=by
 obtain⟨e,C,d,H',rfl,os,bare,un,hok,⟨sz,nh,oe,vs,he,hc,hdd,hsl,hd,hsz,h1⟩,hE⟩:=h;refine⟨e,C,d,H',rfl,I.call' (ch:=[]) os un hok bare (λb z=>absurd z (by simp)),⟨rH I sz,nh,oe,vs,he,hc,hdd,hsl,hd,hsz,?_⟩,hE⟩
 rcases h1 with h1|⟨T,oT,ts,h1,a,b,c⟩
 ·exact .inl h1
 ·exact .inr ⟨T,oT,ts,h1,a,rH I b,c⟩
end
section
variable{P:Program}{w:World}{K:PySem.W.Frag}{mg:Str->Option Value}{base:Heap}
theorem leaves{N:List Str}{q:Str}{sc:Scope}{f:Addr}{cd:Value}{A:Around}{o:List Env}{s:Shared}{H:Hp}{E:XK}{ev:Value}{s':Shared}
  (h:FlX (vo (CXS P w) P w K mg base N q sc f cd A o s H E) E ev s'):(vo (CXS P w) P w K mg base N q sc f cd A o s H E).xe ev s':=by
 obtain⟨pins,σ,e,C,d,H',rfl,I,fl,hE⟩:=h;show wpAny _ _ (leaving _ _) _ _ _
 unfold leaving;refine Zaa (Ep I rfl rfl fl λs1 I1 f1 n1=>?_);refine pX I1 f1 λs2 I2 f2=>?_;obtain⟨m,nh,oe,vs,he,hc,hdd,hsl,hd,hsz,h1⟩:=f2;refine⟨e,C,d,H',rfl,I2.os,I2.bare,I2.base,I2.hok,⟨m.sz,nh,oe,vs,he,hc,hdd,hsl,hd,hsz,?_⟩,hE⟩;rcases h1 with h1|⟨T,oT,ts,h1,a,b,c⟩
 ·exact .inl h1
 ·exact .inr ⟨T,oT,ts,h1,a,b.sz,c⟩
theorem PSs.ofX{X:Cx}{E:Value->Shared->Prop}{st:List Stmt}{t:TS}(k:∀ e s',E e s'->X.xe e s')(h:PSs (X.wish E) st t):PSs X st t:=λpins s σ H D I hw=>
 Za8 (h pins s σ H D (I.wish _) hw) (λ_ _ q=>q.jc) λe s' z=>k e s' z
def Jr(P:Program)(w:World)(K:PySem.W.Frag)(mg:Str->Option Value)(base:Heap)(x:Str)(k:Nat)(ps:List Str)(sp:Sp):Prop:=
 ∃ (f:Addr) (fd:FuncData),mg x=some (.ref f)/\keepIn K (.ref f)=true/\Binds K fd ps []/\pJ P w K mg base (CXS P w) k f fd ps sp
noncomputable abbrev cxX(P:Program)(w:World)(K:PySem.W.Frag)(mg:Str->Option Value)(base:Heap)(N:List Str)(x:Str)(sc:Scope)(f:Addr)(cdv:Value)(A:Around)(outer:List Env)(s:Shared)(H:Hp)(E:XK):Cx:=
 (vo (CXS P w) P w K mg base N x sc f cdv A outer s H E).wish (FlX (vo (CXS P w) P w K mg base N x sc f cdv A outer s H E) E)
end
open PySem PySem.Spec PyProof.Rows PySem.Calls Builtin Builtin.ObjectAttr
noncomputable abbrev yd(C t:Addr)(dx:Option Addr):Obj:={ cls:=.ref C,dict:=dx,data:=.fields #[.ref t,.none,.none,.none,.bool false,.none] }
section
variable{h:Heap}{g:Array GenState}{d:Drawn}{t:Nat}{os:OsState}
variable{nm q:Str}{C N f:Addr}{bs bm:List Value}{hdct:Bool}{sn:List Str}{sub:List Value}{ab:Bool}{col:Option Bool}{dd:Option Addr}{k0 k1 k2 k3 k5:Option Value}
theorem Hu{M:Model}{A:Around}{E:Value->Shared->Prop}(hV:bm.contains (.type "ValueError")=true){rest:List Value}{Q:Unit->Shared->Prop}
  (hC:h.get? C=some (excClassObj nm q C N bs bm hdct sn sub ab col dd k0 k1 k2 k3 k5 "ValueError.__new__"))(hq:Q () ⟨h,g,d,t,os⟩) :
  wpAny M A (checkBuiltinCall "ValueError.__new__" ⟨.ref C::rest,[]⟩) Q E ⟨h,g,d,t,os⟩:=by
 have Fn:=PySem.F.excBase_ValueError;have hcont:(Value.ref C::bm).contains (.type "ValueError")=true:=by rw[Zbx,hV,Bool.or_true]
 have hstar:=Fn.noStar;simp only[checkBuiltinCall,Fn.newKind,Fn.newSplit,Fn.newRow];repeat (first|refine wpAny_loadPart_at hC ?_|(refine wpAny_isSubtype_exc hC ?_;rw[hcont])|refine wpAny_staticBase_exc hC ?_|refine wpAny_madeBy_exc hC ?_|simp only[bne_self_eq_false,Zbg,Zbh]|wp_step)
 exact hq
variable{prog:Program}{w:World}{A:Around}{R:Result->Shared->Prop}{K:PySem.W.Frag}
theorem newX(hV:bm.contains (.type "ValueError")=true)(hA:bm.contains (.type "AttributeError")=false)(hN:bm.contains (.type "NameError")=false){rest:List Value}
  (hC:h.get? C=some (excClassObj nm q C N bs bm hdct sn sub ab col dd k0 k1 k2 k3 k5 "ValueError.__new__"))
  (hq:R (.ok (.ret (.ref (h.objs.size+1)))) ⟨(h.push { cls:=.type "tuple",data:=.seq rest.toArray }).push (yd C h.objs.size none),g,d,t,os⟩)(hrest:rest.length<=sizeLine) :
  codeAny (model prog w) A (.builtin "ValueError.__new__" ⟨.ref C::rest,[]⟩) R ⟨h,g,d,t,os⟩:=by
 have Fn:=PySem.F.excBase_ValueError;have hends:=Fn.ends;have hcB:(Value.ref C::bm).contains (.type "ValueError")=true:=by rw[Zbx,hV,Bool.or_true]
 have hcA:(Value.ref C::bm).contains (.type "AttributeError")=false:=by rw[Zbx,hA];rfl
 have hcN:(Value.ref C::bm).contains (.type "NameError")=false:=by rw[Zbx,hN];rfl
 refine codeAny_builtinAt Fn.entry ?_;unfold Builtin.«BaseException.__new__»;refine PySem.wpAt_bind ?_;show PySem.wpAt _ _ _ (stack>>=_) _ _ _
 refine PySem.wpAt_bind (PySem.wpAt_stack λp below=>PySem.wpAt_of_wpAny ?_)
 wp_walk
 refine PySem.wpAt_of_wpAny ?_;rw[Fn.owner];repeat (first|with_reducible refine wpAny_madeHere_exc Fn.canon hC ?_|with_reducible refine wpAny_loadPart_at hC ?_|(with_reducible refine wpAny_isSubtype_exc hC ?_;first|rw[hcB]|rw[hcA]|rw[hcN])|wp_step)
 show R _ _
 rw[Heap.size_push];exact hq
theorem Ow{rest:List Value}(X:K.In h)(hV:bm.contains (.type "ValueError")=true)(hA:bm.contains (.type "AttributeError")=false)(hN:bm.contains (.type "NameError")=false)
  (hC:h.get? C=some (excClassObj nm q C N bs bm hdct sn sub ab col dd k0 k1 k2 k3 k5 "ValueError.__new__"))
  (hi:PySem.W.findIn K (.ref C) "__init__"=some (some (.ref f)))(hf:PySem.W.typeIn K (.ref f)=some (.type "function"))(hrest:rest.length<=sizeLine)
  (hq:codeAny (model prog w) (A.under (.builtin "type.__call__" ⟨.ref C::rest,[]⟩)) (.call (.ref f) ⟨.ref (h.objs.size+1)::rest,[]⟩) (PySem.W.InitBack (h.objs.size+1) R)
   ⟨(h.push { cls:=.type "tuple",data:=.seq rest.toArray }).push (yd C h.objs.size none),g,d,t,os⟩) :
  codeAny (model prog w) A (.call (.ref C) ⟨rest,[]⟩) R ⟨h,g,d,t,os⟩:=by
 have f1:=tc_lookup;have f2:=tc_bind (.ref C);have Fn:=PySem.F.excBase_ValueError;have hT:(⟨h,g,d,t,os⟩:Shared).TypeIs (.ref C) "type":=⟨_,hC,rfl⟩;refine codeAny_of_tree ?_;show wpAny _ _ (callAny (.ref C) _) _ _ _
 repeat (any_goals (first|assumption|with_reducible refine wpAny_loadPart_at hC ?_|wp_step))
 refine⟨rfl,?_⟩;refine codeAny_call_builtin_at (Code.quiet_builtin _ (by decide +kernel)) entry_typeCall (wpAny_check_type_call_sub hC ?_)
 repeat (first|with_reducible refine wpAny_loadPart_at hC ?_|with_reducible refine wpAny_madeBy_exc hC ?_|wp_step)
 refine codeAny_call_builtin_code (Code.quiet_builtin _ Fn.quiet) (Hu hV hC ?_);refine newX hV hA hN hC ?_ hrest;show wpAny _ _ _ _ _ _
 have k:∀ b o,h.get? b=some o->((h.push { cls:=.type "tuple",data:=.seq rest.toArray }).push (yd C h.objs.size none)).get? b=some o:=λb o e=>Zad _ (Zad _ e);have hC₁:=k _ _ hC;have hget:((h.push { cls:=.type "tuple",data:=.seq rest.toArray }).push (yd C h.objs.size none)).get? (h.objs.size+1)=some (yd C h.objs.size none):=by heap_get
 have hcC:(Value.ref C::bm).contains (.ref C)=true:=by simp
 unfold isInstance;repeat (first|with_reducible refine wpAny_loadPart_at hget ?_|wp_step)
 show wpAny _ _ (isSubtype (.ref C) (.ref C)) _ _ _
 refine wpAny_isSubtype_exc hC₁ ?_;rw[hcC];repeat wp_step
 show wpAny _ _ (typeLookup (.ref C) _) _ _ _
 refine((PySem.W.looks_findIn X hi).keeps k).at ?_;refine wpAny_holding (Zaa (((PySem.W.bind_fn X (.ref (h.objs.size+1)) hf).keeps k).at ?_));refine Zaa (wpAny_call (codeAny_mono hq λr s' z=>?_));rcases r with e|(v|_|_|_)<;>first|exact z|exact z.elim|skip;obtain⟨rfl,z⟩:=z;exact Zaf (Zaf z)
end
open PySem PySem.Spec PyProof.Rows PySem.Calls Builtin Builtin.ObjectAttr
noncomputable abbrev Hv:List Value:=[.type "ValueError",.type "Exception",.type "BaseException",.type "object"]
def gF:List Value->Bool
 |.ref _::r=>gF r
 |l=>l==Hv
theorem zq(self:Value):∀ (l:List Value),gF l=true->refuseLoop self "__setattr__" l=pure ()
 |l,e=>by
  unfold gF at e;split at e
  ·rw[refuseLoop_ref];exact zq self _ e
  ·rw[beq_iff_eq.mp e];exact PySem.F.store_ValueError.passes self
termination_by l=>l.length
theorem Bg{x:Value}(hx:Hv.contains x=true):∀ (l:List Value),gF l=true->l.contains x=true
 |l,e=>by
  unfold gF at e;split at e
  ·rw[Zbx,Bg hx _ e,Bool.or_true]
  ·rw[beq_iff_eq.mp e];exact hx
termination_by l=>l.length
theorem Hw{n:String}(hx:Hv.contains (.type n)=false):∀ (l:List Value),gF l=true->l.contains (.type n)=false
 |l,e=>by
  unfold gF at e;split at e
  ·rw[Zbx,Hw hx _ e];rfl
  ·rw[beq_iff_eq.mp e];exact hx
termination_by l=>l.length
theorem Xf{l:List Value}(e:gF l=true):l.isEmpty=false:=by
 cases l with
 |nil=>exact absurd e (by decide)
 |cons _ _=>rfl
structure XCls(K:PySem.W.Frag)(C:Addr)(cd:ClassData):Prop where
 at_:PySem.W.clsIn K C=some cd
 ve:gF cd.mro=true
 hd:cd.hasDict=true
 sa:PySem.W.findIn K (.ref C) "__setattr__"=some (some (.builtin "object.__setattr__"))
section
variable{prog:Program}{w:World}{A:Around}{K:PySem.W.Frag}{C x:Addr}{s:Shared}{cd:ClassData}{E:Value->Shared->Prop}
theorem Js{R:Result->Shared->Prop}{ox:Obj}{od:Option Obj}{name:Str}{tk:Tok}{v:Value}(X:K.In s.heap)(I:PySem.W.InstAt s.heap x ox C od)(Y:XCls K C cd)(ht:PySem.W.findIn K (.ref C) name=some none)
  (h:∀ b,wpAny (model prog w) A.in1 (storeInOwnDict (.ref x) (.ref C) (.str name tk) name v b)
   (λfin s'=>match fin with|.done f=>R (.ok f) s'|.again c'=>c'.quiet=true/\codeAny (model prog w) A c' R s') (λe s'=>R (.error e) s') s) :
  codeAny (model prog w) A (.call (.builtin "object.__setattr__") ⟨[.ref x,.str name tk,v],[]⟩) R s:=by
 have SF:=PySem.F.store_object;have hc:=Y.at_;have ne:=Xf Y.ve;have sub:PySem.W.Looks (model prog w) s.heap (isInstance (.ref x) (.type "object")) true:=I.type.andThen (PySem.W.looks_mroIn X (by unfold PySem.W.mroIn;rw[hc,Option.bind_some,Zae (by rw[ne];decide),Bg (by decide) _ Y.ve]))
 refine codeAny_call_builtin SF.slot.plain SF.entry (@PySem.W.check_slot (model prog w) _ _ s "object.__setattr__" "object" "__setattr__" (.ref x) [.str name tk,v] [] _ SF.kind SF.split sub (SF.args (.ref x) (.str name tk) v) ?_);have hm:PySem.W.Looks (model prog w) s.heap (mroOf (.ref C)) cd.mro:=(PySem.W.looks_clsIn X hc).andThen .now;have L3:PySem.W.Looks (model prog w) s.heap (storeTaker? none) none:=.now;rw[PySem.W.osa_eq,refuse_eq];refine Zaa (Zaa (I.type.here (Zaa (hm.here ?_))));rw[zq _ _ Y.ve];refine Zaf (Zaa (I.type.here (Zaa ((PySem.W.looks_findIn X ht).here (Zaa (L3.here ?_))))));exact h _
theorem Ox{name:Str}{v:Value}{Q:Unit->Shared->Prop}{vs:Array Value}(X:K.In s.heap)(Y:XCls K C cd)(ht:PySem.W.findIn K (.ref C) name=some none)
  (hx:s.heap.get? x=some { cls:=.ref C,data:=.fields vs })
  (h:∀ h' dx,dx=s.heap.objs.size->h'.get? x=some { cls:=.ref C,dict:=some dx,data:=.fields vs }->h'.Ns1 dx (λy=>if y=name then some v else none) ->
   (∀ b o,b≠x->s.heap.get? b=some o->h'.get? b=some o)->Q () { s with heap:=h',toks:=s.toks+2 }) :
  wpAny (model prog w) A (setAttr (.ref x) name v) Q E s:=by
 have I:PySem.W.InstAt s.heap x { cls:=.ref C,data:=.fields vs } C none:=⟨hx,rfl,rfl,trivial⟩;refine PySem.W.set_plain X I Y.sa (Js (s:={ s with toks:=s.toks+1 }) X I Y ht λb=>?_);refine Zaa (Zaf (Zaa (Zaa (wpAny_loadPart hx (Zaa (PySem.W.Looks.here (s:={ s with toks:=s.toks+1 }) (PySem.W.looks_clsIn X Y.at_) ?_))))));rw[Y.hd];show wpAny (model prog w) A.in1 (alloc { cls:=.type "dict",data:=.dict #[] }>>=λdx=>update x (λo=>{ cls:=o.cls,dict:=some dx,data:=o.data,slots:=o.slots })>>=λ_=>dictMade (.ref C) x dx) _ _ _
 have hx₁:(s.heap.push { cls:=.type "dict",data:=.dict #[] }).get? x=some { cls:=.ref C,data:=.fields vs }:=Zad _ hx;have hxs:x≠s.heap.objs.size:=ZaD (Zam hx);refine Zaa (wpAny_alloc ?_);refine Zaa (wpAny_update hx₁ ?_);refine Zaf (a:=some s.heap.objs.size) ?_;have hgd:((s.heap.push { cls:=.type "dict",data:=.dict #[] }).update x λo=>{ cls:=o.cls,dict:=some s.heap.objs.size,data:=o.data,slots:=o.slots }).get? s.heap.objs.size
   = some { cls:=.type "dict",data:=.dict #[] }:=
  (Heap.get?_update_ne _ _ _ _ hxs.symm).trans (Heap.get?_push_at rfl rfl)
 have hnd:((s.heap.push { cls:=.type "dict",data:=.dict #[] }).update x λo=>{ cls:=o.cls,dict:=some s.heap.objs.size,data:=o.data,slots:=o.slots }).Ns s.heap.objs.size (λ_=>none):=
  ⟨_,#[],_,hgd,rfl,λe he=>absurd he (by simp),λ_=>rfl⟩
 show wpAny _ _ (storeInDict s.heap.objs.size (.str name s.toks) name v) _ _ _
 unfold storeInDict newKeyGuard;refine Zaa (Zaf (Zaa (wpAny_nsSet1 (s:=⟨_,_,_,_,_⟩) (Heap.Ns1.of_empty hnd) λh' hn' hs=>?_)));obtain⟨oD,esD,epD,hoD,hdD,hcD⟩:=hn'.count (PySem.Within.cons name v PySem.Within.nil);refine Zaa (wpAny_lookBehind hoD (by rw[hdD];exact pastItsLine_dict (ZaF hcD (by rw[Zaz,ZbM,sizeLine_eq];omega))) ?_)
 refine Zaf (h h' _ rfl ((hs.2 x hxs).trans (ZbJ _ hx₁ rfl)) hn' λb ob hbx hb=>?_);exact(hs.2 b (ZaD (Zam hb))).trans ((Heap.get?_update_ne _ _ _ _ hbx).trans (Zad _ hb))
theorem Oz{name:Str}{v:Value}{Q:Unit->Shared->Prop}{vs:Array Value}{dx:Addr}{mA:Str->Option Value}{ns:List Str}(X:K.In s.heap)(Y:XCls K C cd)(ht:PySem.W.findIn K (.ref C) name=some none)
  (hx:s.heap.get? x=some { cls:=.ref C,dict:=some dx,data:=.fields vs })(hn:s.heap.Ns1 dx mA)(hw:PySem.Within mA ns)(hsz:ns.length<=sizeLine)
  (h:∀ h',h'.Ns1 dx (λy=>if y=name then some v else mA y)->Heap.SameBut dx s.heap h'->Q () { s with heap:=h',toks:=s.toks+2 }) :
  wpAny (model prog w) A (setAttr (.ref x) name v) Q E s:=by
 obtain⟨od,ho,hl⟩:=sJ hn;have I:PySem.W.InstAt s.heap x { cls:=.ref C,dict:=some dx,data:=.fields vs } C (some od):=⟨hx,rfl,rfl,ho⟩;refine PySem.W.set_plain X I Y.sa (Js (s:={ s with toks:=s.toks+1 }) X I Y ht λb=>?_);refine Zaa (Zaf (Zaa (Zaa (wpAny_loadPart hx (Zaa (PySem.W.Looks.here (s:={ s with toks:=s.toks+1 }) (PySem.W.looks_clsIn X Y.at_) ?_))))));rw[Y.hd];refine Zaf (a:=some dx) (Zaa (Zaf (Zaa ?_)));refine wpAny_nsSet1 (s:={ s with toks:=s.toks+1 }) hn λh' hn2 hs2=>?_;obtain⟨oD,esD,epD,hoD,hdD,hcD⟩:=hn2.count (PySem.Within.cons name v hw);refine Zaa (wpAny_lookBehind hoD (by rw[hdD];exact pastItsLine_dict (ZaF hcD (by rw[Zaz];omega))) ?_)
 exact Zaf (h _ hn2 hs2)
end
def XN(e C:Addr)(d:Option Addr):HO:=.ext λh=>∃ vs:Array Value,h.get? e=some { cls:=.ref C,dict:=d,data:=.fields vs }/\1<vs.size/\vs[1]?=some .none
def XD(dx:Addr)(fs:List (Str×V)):HO:=.ext λh=>fs.length<=1000/\∃ mA,h.Ns1 dx mA/\(∀ f,mF (fs.lookup f) (mA f))/\PySem.Within mA (fs.map (·.1))
section
variable{P:Program}{w:World}{H:Hp}{h:Heap}{e C dx:Addr}{d:Option Addr}{fs:List (Str×V)}
theorem XN.mk{vs:Array Value}(a:h.get? e=some { cls:=.ref C,dict:=d,data:=.fields vs })(b:1<vs.size)(c:vs[1]?=some .none):cF P w H h e (XN e C d):=
 ⟨⟨vs,a,b,c⟩,⟨_,a⟩,λ_ _ ⟨vs,a,b,c⟩ k=>⟨vs,k _ a,b,c⟩⟩
theorem XO.mk{vs:Array Value}(a:h.get? e=some { cls:=.ref C,dict:=d,data:=.fields vs }):cF P w H h e (XO e C d):=
 ⟨⟨vs,a⟩,⟨_,a⟩,λ_ _ ⟨vs,a⟩ k=>⟨vs,k _ a⟩⟩
theorem XD.mk{mA:Str->Option Value}(l:fs.length<=1000)(n:h.Ns1 dx mA)(r:∀ f,mF (fs.lookup f) (mA f))(wi:PySem.Within mA (fs.map (·.1))):cF P w H h dx (XD dx fs):=
 ⟨⟨l,mA,n,r,wi⟩,let⟨o,_,_,e',_⟩:=n;⟨o,e'⟩,λ_ _ ⟨l,mA,n,r,wi⟩ k=>⟨l,mA,n.at k,r,wi⟩⟩
theorem XN.get(x:cF P w H h e (XN e C d)):∃ vs:Array Value,h.get? e=some { cls:=.ref C,dict:=d,data:=.fields vs }/\1<vs.size/\vs[1]?=some .none:=x.1
theorem XD.get(x:cF P w H h dx (XD dx fs)):fs.length<=1000/\∃ mA,h.Ns1 dx mA/\(∀ f,mF (fs.lookup f) (mA f))/\PySem.Within mA (fs.map (·.1)):=x.1
end
structure XMk(K:PySem.W.Frag)(C f:Addr)(cd:ClassData):Prop extends XCls K C cd where
 ob:∃ nm q N bs bm sn sub ab col dd k0 k1 k2 k3 k5,K.lookup C=some (excClassObj nm q C N bs bm true sn sub ab col dd k0 k1 k2 k3 k5 "ValueError.__new__")/\cd.mro=.ref C::bm
 init:PySem.W.findIn K (.ref C) "__init__"=some (some (.ref f))
 fn:PySem.W.typeIn K (.ref f)=some (.type "function")
 kp:keepIn K (.ref C)=true
section
variable{X:Cx}{pins:List (Addr×Obj)}{σ:St}{H:Hp}{s:Shared}{C f:Addr}{cd:ClassData}{fd:FuncData}{ps:List Str}{sp:Sp}{k:Nat}{x:Str}{p pos:Pos}{e:Expr}{es:List Expr}{t:TA}{us:List Value}{vs:List V}
theorem Hy{QA:Addr->Hp->Prop}(Y:XMk X.K C f cd)(F:pJ X.prog X.w X.K X.mg X.base CX0 k f fd ps sp)(hr:dw (k+1) X.A)(hb:Binds X.K fd ps [])(I:Inv X pins σ H s)(r:Vals vs us)(hz:vs.length<=sizeLine)
  (h:∀ a,H a=none->sp (.ref a::vs) (upd H a (XN a C none)) (λv H2=>v=.non/\QA a H2) E0) :
  wpAny (model X.prog X.w) X.A (call (.ref C) us) (λu s'=>∃ H',u=.ref (s.heap.objs.size+1)/\Inv X pins σ H' s'/\QA (s.heap.objs.size+1) H') X.xe s:=by
 obtain⟨nm,q,N,bs,bm,sn,sub,ab,col,dd,k0,k1,k2,k3,k5,hC,hm⟩:=Y.ob;have ve:gF bm=true:=by have:=Y.ve;rw[hm] at this;exact this
 have hq:=h (s.heap.objs.size+1) (I.hok.fresh (ZbZ _));have k1':∀ b o,s.heap.get? b=some o->(s.heap.push { cls:=.type "tuple",data:=.seq us.toArray }).get? b=some o:=λb o e=>Zad _ e;have I1:Inv X pins σ H { s with heap:=s.heap.push { cls:=.type "tuple",data:=.seq us.toArray } }:=I.kept (t':=s.toks) k1';have hget:((s.heap.push { cls:=.type "tuple",data:=.seq us.toArray }).push (yd C s.heap.objs.size none)).get? (s.heap.objs.size+1)=some (yd C s.heap.objs.size none):=by
  have:=Zar (s.heap.push { cls:=.type "tuple",data:=.seq us.toArray }) (o:=yd C s.heap.objs.size none) rfl
  rwa [Heap.size_push] at this
 have I2:Inv X pins σ (upd H (s.heap.objs.size+1) (XN (s.heap.objs.size+1) C none)) { s with heap:=(s.heap.push { cls:=.type "tuple",data:=.seq us.toArray }).push (yd C s.heap.objs.size none) }:=
  I1.laid (t':=s.toks) (λb o e=>Zad _ e) (ZbY (Heap.size_push _ _)) (XN.mk hget (by simp) rfl)
 have r2:Vals (V.ref (s.heap.objs.size+1)::vs) (Value.ref (s.heap.objs.size+1)::us):=.cons rfl r;have hl:(Value.ref (s.heap.objs.size+1)::us++[]).length=ps.length:=by
  have e:=r2.length;rw[F.len _ _ _ _ hq] at e;rw[ZaJ];exact e.symm
 have hbs:=hb { s with heap:=(s.heap.push { cls:=.type "tuple",data:=.seq us.toArray }).push (yd C s.heap.objs.size none) } (Value.ref (s.heap.objs.size+1)::us) I2.kIn hl;rw[ZaJ] at hbs;obtain⟨hh,g,d,tk,os⟩:=s;refine wpAny_call (Ow (f:=f) I.kIn (Bg (by decide) _ ve) (Hw (by decide) _ ve) (Hw (by decide) _ ve) (I.kIn _ _ hC) Y.init Y.fn (by rw[<-r.length];exact hz)
  (codeAny_mono (F.run _ X.stack _ _ ⟨Value.ref (hh.objs.size+1)::us,[]⟩ (Value.ref (hh.objs.size+1)::us) _ _ E0 (hr.make C us []) (I2.env0.make C us []) hbs r2 hq) λr s' hq'=>?_))
 cases r with
 |error e=>exact False.elim hq'
 |ok fl=>
  cases fl with
  |ret u=>
   obtain⟨v,H',I3,rv,ev,q3⟩:=I2.after hq';subst ev;exact⟨rv,⟨H',rfl,I3,q3⟩⟩
  |next=>exact False.elim hq'
  |brk=>exact False.elim hq'
  |cont=>exact False.elim hq'
def del(H:Hp)(a:Addr):Hp:=λb=>if b=a then none else H b
theorem Er{H:Hp}{a:Addr}:del H a a=none:=by unfold del;rw[Zag rfl]
theorem pY{H:Hp}{a b:Addr}(h:b≠a):del H a b=H b:=by unfold del;rw[Zae h]
theorem Inv.RW{a:Addr}{φ:Heap->Prop}(I:Inv X pins σ H s)(h:H a=some (.ext φ)):Inv X pins σ (del H a) s:=by
 have ne:∀ b o,H b=some o->(∀ ψ,o≠.ext ψ)->b≠a:=λb o q n z=>by subst z;rw[q] at h;exact n φ (Zab h)
 have nn:∀ b,H b=none->del H a b=none:=λb q=>by unfold del;split<;>first|rfl|exact q
 refine⟨I.ok,I.os,I.bare,⟨I.base.keep,I.base.slot,λb o q n x=>nn b (I.base.free b o q n x),I.base.there,λb xs q=>?_,λb o u q=>?_,λb ps q=>?_⟩,I.loc,I.cell,nn _ I.free,λx c q=>nn _ (I.freeC x c q),λp hp=>?_,λb o q=>?_,I.len⟩
 ·have:=I.base.tups b xs q;rw[pY (ne b _ this λ_ z=>by cases z)];exact this
 ·have:=I.base.frzs b o u q;rw[pY (ne b _ this λ_ z=>by cases z)];exact this
 ·obtain⟨m,this⟩:=I.base.tbls b ps q;exact⟨m,by rw[pY (ne b _ this λ_ z=>by cases z)];exact this⟩
 ·obtain⟨a1,a2,a3⟩:=I.pin p hp;exact⟨a1,nn _ a2,a3⟩
 ·unfold del at q;split at q
  ·cases q
  ·rename_i hb;refine(I.hok b o q).stay (λc u _ z=>z) (λc z=>?_) λc xs z=>?_
   ·rw[pY (ne c _ z λ_ y=>by cases y)];exact z
   ·rw[pY (ne c _ z λ_ y=>by cases y)];exact z
theorem Inv.Xg{a:Addr}{fs:List (Str×V)}(I:Inv X pins σ H s)(h:H a=some (XD a fs)):Inv X pins σ (upd H a (.xd fs)) s:=by
 have ne:∀ b o,H b=some o->(∀ ψ,o≠.ext ψ)->b≠a:=λb o q n z=>by subst z;rw[q] at h;exact n _ (Zab h)
 have nn:∀ b,H b=none->upd H a (.xd fs) b=none:=λb q=>by
  have:b≠a:=λz=>by rw[z,h] at q;cases q
  rw[aq this];exact q
 refine⟨I.ok,I.os,I.bare,⟨I.base.keep,I.base.slot,λb o q n x=>nn b (I.base.free b o q n x),I.base.there,λb xs q=>?_,λb o u q=>?_,λb ps q=>?_⟩,I.loc,I.cell,nn _ I.free,λx c q=>nn _ (I.freeC x c q),λp hp=>?_,λb o q=>?_,I.len⟩
 ·have:=I.base.tups b xs q;rw[aq (ne b _ this λ_ z=>by cases z)];exact this
 ·have:=I.base.frzs b o u q;rw[aq (ne b _ this λ_ z=>by cases z)];exact this
 ·obtain⟨m,this⟩:=I.base.tbls b ps q;exact⟨m,by rw[aq (ne b _ this λ_ z=>by cases z)];exact this⟩
 ·obtain⟨a1,a2,a3⟩:=I.pin p hp;exact⟨a1,nn _ a2,a3⟩
 ·by_cases hb:b=a
  ·subst hb;rw[au] at q;cases q;obtain⟨_,mA,n,r,_⟩:=XD.get (I.hok _ _ h);exact⟨mA,n,r⟩
  ·rw[aq hb] at q;refine(I.hok b o q).stay (λc u _ z=>z) (λc z=>?_) λc xs z=>?_
   ·rw[aq (ne c _ z λ_ y=>by cases y)];exact z
   ·rw[aq (ne c _ z λ_ y=>by cases y)];exact z
theorem Hz{M:Model}{A:Around}{E:Value->Shared->Prop}{env:Env}{y:Sem Value}{QF:Flow->Shared->Prop}{nm q:Str}{N:Addr}{bs bm:List Value}{hdct:Bool}{sn:List Str}{sub:List Value}{ab:Bool}{col:Option Bool}{dd:Option Addr}{k0 k1 k2 k3 k5:Option Value}{newId:String}
  (hbase:bm.contains (.type "BaseException")=true)(hh:A.handled=none)
  (h:wpAny M A y (λv s₁=>∃ e d,∃ vs:Array Value,v=.ref e/\s₁.heap.get? C=some (excClassObj nm q C N bs bm hdct sn sub ab col dd k0 k1 k2 k3 k5 newId) /\
   s₁.heap.get? e=some { cls:=.ref C,dict:=d,data:=.fields vs }/\vs[1]?=some .none/\E (.ref e) s₁) E s) :
  wpAny M A (raiseStmt env (some y) none) QF E s:=by
 have hcB:(Value.ref C::bm).contains (.type "BaseException")=true:=by rw[Zbx,hbase,Bool.or_true]
 unfold raiseStmt;refine Zaa (Za8 h (λv s₁ h₁=>?_) λ_ _ x=>x);obtain⟨e,d,vs,rfl,hC,he,hv1,hE⟩:=h₁;obtain⟨hp,g,dr,tk,os⟩:=s₁;repeat (first|with_reducible refine wpAny_loadPart_at he ?_|with_reducible refine wpAny_loadPart_at hC ?_|(with_reducible refine wpAny_isSubtype_exc hC ?_;rw[hcB])|wp_step)
 rw[hv1];refine Zaf ?_;rw[Zae (by decide)]
 exact Zaf (wpAny_raiseNew_none hh hE)
def uU(C:Addr)(sp:Sp)(E:XK)(t:TA):TS:=λ_ σ H=>t σ H λvs H1=>vs.length<=sizeLine/\∀ a,H1 a=none ->
 sp (.ref a::vs) (upd H1 a (XN a C none)) (λv H2=>v=.non/\∃ dx fs,H2 a=some (XN a C (some dx))/\H2 dx=some (XD dx fs)/\dx≠a/\E (.ref C) (some dx) (upd (del H2 a) dx (.xd fs))) E0
theorem K4{E:XK}{rpos:Pos}(Y:XMk X.K C f cd)(F:pJ X.prog X.w X.K X.mg X.base CX0 k f fd ps sp)(hr:dw (k+1) X.A)(hg:Gl X x)(hm:X.mg x=some (.ref C))(hb:Binds X.K fd ps [])(hh:X.A.handled=none)
  (hx:∀ (pins:List (Addr×Obj)) (σ:St) (H:Hp) (s:Shared) (e:Addr) (C:Value) (d:Option Addr),Inv X pins σ H s->Fly X pins H s.heap e C d->E C d H->X.xe (.ref e) s)
  (ha:PA X (e::es) t)(hdb:(x==("__debug__":Str))=false:=by decide)(he:starEach (e::es) X.env=(false,eval e X.env)::starEach es X.env:=by rfl)(hpl:(backTo pos (starEach es X.env)).any (·.1)=false:=by rfl) :
  PS X (.Raise (some (.Call (.Name x p) (e::es) [] pos)) none rpos) (uU C sp E t):=by
 obtain⟨nm,q,N,bs,bm,sn,sub,ab,col,dd,k0,k1,k2,k3,k5,hC,hmr⟩:=Y.ob;have ve:gF bm=true:=by have:=Y.ve;rw[hmr] at this;exact this
 intro pins s σ H D I h;rw[arm_exec_Raise];have key:wpAny (model X.prog X.w) X.A (eval (.Call (.Name x p) (e::es) [] pos) X.env) (λv s₁=>∃ e d,∃ vs:Array Value,v=.ref e/\s₁.heap.get? C=some (excClassObj nm q C N bs bm true sn sub ab col dd k0 k1 k2 k3 k5 "ValueError.__new__") /\
   s₁.heap.get? e=some { cls:=.ref C,dict:=d,data:=.fields vs }/\vs[1]?=some .none/\X.xe (.ref e) s₁) X.xe s:=by
  refine wpAny_Call_Name_kw (qu I hg hm ?_ hdb);refine PySem.W.callWith_K (h₀:=X.base) I.ok.mod.kin Y.kp (thn (ha pos pins s σ H _ I h) λus s1 ⟨vs,H1,I1,r,hz,q⟩=>⟨I1.kIn,?_⟩) he hpl;refine thn (Hy (QA:=λa H2=>∃ dx fs,H2 a=some (XN a C (some dx))/\H2 dx=some (XD dx fs)/\dx≠a/\E (.ref C) (some dx) (upd (del H2 a) dx (.xd fs))) Y F hr hb I1 r hz q) ?_;rintro u s2 ⟨H2,eu,I2,q2⟩;obtain⟨dx,fs,h2,h3,ne,hE⟩:=q2;obtain⟨vs2,hget,hsz,h1⟩:=XN.get (I2.hok _ _ h2);have I3:=Inv.Xg (Inv.RW I2 h2) (a:=dx) (fs:=fs) (by rw[pY ne];exact h3)
  refine⟨_,some dx,vs2,eu,I2.kIn _ _ hC,hget,h1,hx pins σ _ s2 _ _ (some dx) I3 ⟨rH I1 (ZbZ _),by rw[aq (ZaX ne)];exact Er,_,vs2,hget,rfl,rfl,rfl,rfl,hsz,.inl h1⟩ hE⟩
 exact Zaa (wpAny_standAt (Hz (C:=C) (nm:=nm) (q:=q) (N:=N) (bs:=bs) (bm:=bm) (hdct:=true) (sn:=sn) (sub:=sub) (ab:=ab) (col:=col) (dd:=dd) (k0:=k0) (k1:=k1) (k2:=k2) (k3:=k3) (k5:=k5) (newId:="ValueError.__new__") (Bg (by decide) _ ve) hh
  (Zaa (thn key λv s1 z=>Zaa (wpAny_standAt (Zaf z))))))
end
section
variable{X:Cx}{pins:List (Addr×Obj)}{σ:St}{H:Hp}{s:Shared}{o value:Expr}{f:Str}{pos pos':Pos}{ta tv:TE}
def sX0(K:PySem.W.Frag)(ta tv:TE)(f:Str):TS:=λD σ H=>tv σ H λy H1=>ta σ H1 λx H2=>∃ e C cd,x=.ref e/\H2 e=some (XN e C none)/\XCls K C cd/\PySem.W.findIn K (.ref C) f=some none /\
 ∀ dx,H2 dx=none->D.nx σ (upd (upd H2 dx (XD dx [(f,y)])) e (XN e C (some dx)))
theorem Xh(ha:PE X o ta)(hv:PE X value tv)(hs:swapsWith value (some (.Attribute o f pos')) pos.line X.env=pure false):PS X (.Assign [.Attribute o f pos'] value pos) (sX0 X.K ta tv f):=by
 intro pins s σ H D I h;refine plainObj_wpAny_Assign_Attribute (thn (hv pins s σ H _ I h) λu s1 ⟨y,H1,I1,ry,q⟩=>thn (ha pins s1 σ H1 _ I1 q) ?_) hs;rintro ov s2 ⟨x,H2,I2,rx,e,C,cd,ex,ee,c,n,q2⟩;subst ex;obtain rfl:ov=Value.ref e:=rx;obtain⟨vs,hget,hsz,h1⟩:=XN.get (I2.hok _ _ ee);refine Ox I2.kIn c n hget λh' dx hdx hx' hn' keep=>?_;have nd:H2 dx=none:=I2.hok.fresh (by rw[hdx];exact Zai _)
 have ne:dx≠e:=λz=>by rw[z,ee] at nd;cases nd
 obtain⟨oD,eD⟩:∃ oD,h'.get? dx=some oD:=let⟨o,_,_,e',_⟩:=hn';⟨o,e'⟩;have hfr:=(Heap.get?_some_iff.mp eD).2;have g1:(s2.heap.push oD).get? dx=some oD:=by rw[hdx];exact Zar _ hfr
 have I3:Inv X pins σ (upd H2 dx (XD dx [(f,y)])) { s2 with heap:=s2.heap.push oD,toks:=s2.toks+2 }:=by
  refine I2.laid (t':=s2.toks+2) (λb u z=>Zad _ z) (by rw[hdx];exact Zai _) (XD.mk (by simp) (hn'.at λo z=>?_) (λg=>?_) λg hg=>?_)
  ·rw[eD] at z;rw[g1];exact z
  ·by_cases hgf:g=f
   ·subst hgf;rw[Zag rfl];have:([(g,y)]:List (Str×V)).lookup g=some y:=by simp[List.lookup]
    rw[this];exact ry
   ·rw[Zae hgf];have:([(f,y)]:List (Str×V)).lookup g=none:=by
     have hb:(g==f)=false:=beq_eq_false_iff_ne.mpr hgf;simp only[List.lookup,hb]
    rw[this];exact True.intro
  ·by_cases hgf:g=f
   ·simp[hgf]
   ·exact absurd (Zae hgf) hg
 have I4:=Inv.write (h':=h') (t':=s2.toks+2) I3 (x:=e) (e:=e) (o:=XN e C (some dx)) (by rw[aq (ZaX ne),ee];exact True.intro) (.inl rfl) (λb u hb z=>?_) ⟨_,hx'⟩ (XN.mk hx' hsz h1)
 ·exact⟨σ,_,I4,q2 dx nd⟩
 ·rcases Heap.get?_push_cases z with⟨z1,z2⟩|z
  ·rw[z1,z2,<-hdx];exact eD
  ·exact keep b u hb z
def sX1(K:PySem.W.Frag)(ta tv:TE)(f:Str):TS:=λD σ H=>tv σ H λy H1=>ta σ H1 λx H2=>∃ e C cd dx fs,x=.ref e/\H2 e=some (XN e C (some dx))/\H2 dx=some (XD dx fs)/\fs.length<1000/\XCls K C cd/\PySem.W.findIn K (.ref C) f=some none /\
 D.nx σ (upd H2 dx (XD dx (mq f y fs)))
theorem Xi(ha:PE X o ta)(hv:PE X value tv)(hs:swapsWith value (some (.Attribute o f pos')) pos.line X.env=pure false):PS X (.Assign [.Attribute o f pos'] value pos) (sX1 X.K ta tv f):=by
 intro pins s σ H D I h;refine plainObj_wpAny_Assign_Attribute (thn (hv pins s σ H _ I h) λu s1 ⟨y,H1,I1,ry,q⟩=>thn (ha pins s1 σ H1 _ I1 q) ?_) hs;rintro ov s2 ⟨x,H2,I2,rx,e,C,cd,dx,fs,ex,ee,ed,hl,c,n,q2⟩;subst ex;obtain rfl:ov=Value.ref e:=rx;obtain⟨vs,hget,hsz,h1⟩:=XN.get (I2.hok _ _ ee);obtain⟨_,mA,hn,r,wi⟩:=XD.get (I2.hok _ _ ed);refine Oz I2.kIn c n hget hn wi (by rw[List.length_map,sizeLine_eq];omega) λh' hn' hs'=>?_
 refine⟨σ,_,I2.write (t':=s2.toks+2) (x:=dx) (e:=dx) (o:=XD dx (mq f y fs)) (by rw[ed];exact True.intro) (.inl rfl) (λb u hb z=>(hs'.2 b hb).trans z) (let⟨o,_,_,e',_⟩:=hn';⟨o,e'⟩)
  (XD.mk (by have:=tY f y fs;omega) hn' (λg=>?_) λg hg=>?_),q2⟩
 ·show mF ((mq f y fs).lookup g) (if g=f then some u else mA g)
  rw[tX];by_cases q:g=f
  ·rw[Zag q,Zag q];exact ry
  ·rw[Zae q,Zae q];exact r g
 ·by_cases q:g=f
  ·rw[q];exact(sO f y fs).1
  ·refine(sO f y fs).2 g (wi g λz=>hg ?_);show(if g=f then some u else mA g)=none
   rw[Zae q];exact z
end
noncomputable abbrev Cx.hand(X:Cx)(ev:Value)(E:Value->Shared->Prop):Cx:={ X with A:=X.A.mark (some ev),calm:=false,xe:=E }
section
variable{X:Cx}{pins:List (Addr×Obj)}{σ:St}{H:Hp}{s:Shared}{ev:Value}{E:Value->Shared->Prop}{e C:Addr}{d:Option Addr}
theorem Inv.hand(I:Inv X pins σ H s)(ev:Value)(E:Value->Shared->Prop):Inv (Cx.hand X ev E) pins σ H s:=
 let ok:=I.ok
 ⟨⟨ok.mod,ok.kind,ok.glob,ok.blt,ok.above,ok.inj,ok.has,ok.cab,(λz=>by cases z),ok.frames,ok.stk,ok.exf,ok.bs,ok.bsz,ok.noex,ok.exfs,ok.pH,ok.frf⟩,I.os,I.bare,I.base,I.loc,I.cell,I.free,I.freeC,I.pin,I.hok,I.len⟩
theorem Inv.Bh(ok:X.Ok)(I:Inv (Cx.hand X ev E) pins σ H s):Inv X pins σ H s:=
 ⟨ok,I.os,I.bare,I.base,I.loc,I.cell,I.free,I.freeC,I.pin,I.hok,I.len⟩
theorem Inv.track(I:Inv X pins σ H s)(fl:Fly X pins H s.heap e (.ref C) d):Inv X pins σ (upd H e (XO e C d)) s:=by
 obtain⟨m,nh,oe,vs,he,hc,hdd,hsl,hd,hsz,h1⟩:=fl;have ne:∀ b o,H b=some o->b≠e:=λb o q z=>by rw[z,nh] at q;cases q
 have obj:s.heap.get? e=some { cls:=.ref C,dict:=d,data:=.fields vs }:=by
  rw[he];obtain⟨c,dd,dt,sl⟩:=oe;cases hc;cases hdd;cases hsl;cases hd;rfl
 refine⟨I.ok,I.os,I.bare,⟨I.base.keep,I.base.slot,λb o q n x=>?_,I.base.there,λb xs q=>?_,λb o u q=>?_,λb ps q=>?_⟩,I.loc,I.cell,?_,λx c q=>?_,λp hp=>?_,λb o q=>?_,I.len⟩
 ·rw[aq (ZaD (Zap (Zam q) m.sz))];exact I.base.free b o q n x
 ·have:=I.base.tups b xs q;rw[aq (ne b _ this)];exact this
 ·have:=I.base.frzs b o u q;rw[aq (ne b _ this)];exact this
 ·obtain⟨z,this⟩:=I.base.tbls b ps q;exact⟨z,by rw[aq (ne b _ this)];exact this⟩
 ·rw[aq (ZaX m.loc)];exact I.free
 ·rw[aq (m.cl x c q)];exact I.freeC x c q
 ·obtain⟨a1,a2,a3⟩:=I.pin p hp;exact⟨a1,by rw[aq (m.pn p hp)];exact a2,a3⟩
 ·by_cases hb:b=e
  ·subst hb;rw[au] at q;cases q;exact XO.mk obj
  ·rw[aq hb] at q;exact(I.hok b o q).stay (λc u _ z=>z) (λc z=>by rw[aq (ne c _ z)];exact z) λc xs z=>by rw[aq (ne c _ z)];exact z
theorem goes{M:Model}{A:Around}{E:Value->Shared->Prop}{i:Nat}{n:Str}{pos:Pos}{Q:Unit->Shared->Prop}(I:Inv X pins σ H s)(hN:X.N.Nodup)(hi:X.N[i]?=some n)(hk:X.env.kindOf n=some .local)
  (h:∀ s',Inv X pins (σ.set i none) H s'->Q () s'):wpAny M A (do bindName X.env n .none;unbindBehindTheSuite X.env n pos) Q E s:=by
 obtain⟨m,hn,hl⟩:=id I.loc;have hcls:(X.env.scope.kind==.class||(X.env.scope.kind==.module&&X.env.locals != X.env.globals))=false:=by rw[I.ok.kind];rfl
 have hiσ:i<σ.length:=by rw[I.len];exact(Zac.mp hi).1
 have cne:=I.cne;refine wpAny_nameGoes_keeps hk hn hcls λh' v hn' hs=>?_;obtain⟨oL,_,_,hoL,_⟩:=id hn;have lo:∀ b o,X.s₀.heap.get? b=some o->b≠X.env.locals:=λb o e=>ZaD (Zap (Zam e) I.ok.above);refine h _ ⟨I.ok,I.os,I.bare,⟨λb o e n hb hx=>(hs.2 b (lo b o e)).trans (I.base.keep b o e n hb hx),λb o e n hb hx=>?_,I.base.free,λb o e hx=>?_,I.base.tups,I.base.frzs,I.base.tbls⟩,⟨_,hn',λj y v' e1 e2 e3=>?_⟩,λy c e=>?_,I.free,I.freeC,λp hp=>?_,λb ob e=>?_,by simpa using I.len⟩
 ·obtain⟨sl,e1⟩:=I.base.slot b o e n hb hx;exact⟨sl,(hs.2 b (lo b o e)).trans e1⟩
 ·obtain⟨o',e1⟩:=I.base.there b o e hx;exact⟨o',(hs.2 b (lo b o e)).trans e1⟩
 ·by_cases hj:j=i
  ·subst hj;rw[ZaT hiσ] at e2;cases e2
  ·rw[Zak (ZaX hj)] at e2;obtain⟨u',r',q⟩:=hl j y v' e1 e2 e3;refine⟨u',r',?_⟩;rcases q with⟨k,e⟩|⟨k,c,e,z⟩
   ·refine .inl ⟨k,?_⟩;have:y≠n:=λe=>hj (uZ hN e1 (e▸hi));simp[this,e]
   ·exact .inr ⟨k,c,e,z.sameBut hs (cne y c e)⟩
 ·obtain⟨w',z⟩:=I.cell y c e;exact⟨w',z.sameBut hs (cne y c e)⟩
 ·obtain⟨e,n,ne,nf,dd⟩:=I.pin p hp;exact⟨(hs.2 p.1 ne).trans e,n,ne,nf,dd⟩
 ·refine(I.hok b ob e).stay (λc w' hc q=>(hs.2 c ?_).trans q) (λ_ q=>q) λ_ _ q=>q;rintro rfl;rcases hc with rfl|hc
  ·rw[I.free] at e;cases e
  ·rw[I.free] at hc;cases hc
end
structure Catch(K:PySem.W.Frag)(T:Addr):Prop where
 cls:∃ oc od cd sl,K.lookup T=some ⟨oc,od,.cls cd,sl⟩
 nt:PySem.W.instIn K (.ref T) (.type "tuple")=some false
 be:PySem.W.subIn K (.ref T) (.type "BaseException")=some true
theorem caught{K:PySem.W.Frag}{M:Model}{A:Around}{E:Value->Shared->Prop}{s:Shared}{e C T:Addr}{oe:Obj}{b:Bool}{Q:Bool->Shared->Prop}(X:K.In s.heap)(Y:Catch K T)(he:s.heap.get? e=some oe)(hc:oe.cls=.ref C)
  (hb:PySem.W.subIn K (.ref C) (.ref T)=some b)(h:Q b s):wpAny M A (excMatches (.ref e) (.ref T)) Q E s:=by
 obtain⟨oc,od,cd,sl,hT⟩:=Y.cls;have L1:=PySem.W.looks_instIn (M:=M) X Y.nt;have L2:=PySem.W.looks_subIn (M:=M) X Y.be;have L3:=PySem.W.looks_subIn (M:=M) X hb;have hT':=X _ _ hT;unfold excMatches;refine Zaa (L1.here ?_);obtain⟨hp,g,dr,tk,os⟩:=s;repeat (first|with_reducible refine wpAny_loadPart_at he ?_|with_reducible refine wpAny_loadPart_at hT' ?_|with_reducible refine L2.at ?_|with_reducible refine L3.at ?_|wp_step)
 rw[hc];refine L3.at ?_;cases b<;>(wp_walk;exact h)
noncomputable abbrev THs:=Value->Option Addr->TS
def PHs(X:Cx)(hs:List ExceptHandler)(th:THs):Prop:=∀ (pins:List (Addr×Obj)) (s:Shared) (σ:St) (H:Hp) (D:Ends) (e:Addr) (C:Value) (d:Option Addr),Inv X pins σ H s->Fly X pins H s.heap e C d->th C d D σ H ->
 wpAny (model X.prog X.w) X.A (handleBy (.ref e) X.env hs) (SP X pins D) X.xe s
def Ends.gone(D:Ends)(i:Nat):Ends:={ nx:=λσ H=>D.nx (σ.set i none) H,rt:=D.rt,bk:=λσ H=>D.bk (σ.set i none) H,ct:=λσ H=>D.ct (σ.set i none) H }
def Xj:THs:=λ_ _ _ _ _=>False
def hAs(K:PySem.W.Frag)(T:Addr)(i:Nat)(ts:TS)(rest:THs):THs:=λC d D σ H=>∃ Ca b,C=.ref Ca/\PySem.W.subIn K (.ref Ca) (.ref T)=some b /\
 if b=true then ∀ a,H a=none->ts (Ends.gone D i) (σ.set i (some (.ref a))) (upd H a (XO a Ca d)) else rest C d D σ H
section
variable{X:Cx}{T:Addr}{x n:Str}{np pos:Pos}{b₀:Stmt}{suite body:List Stmt}{ts:TS}{rest:List ExceptHandler}{tr:THs}{i:Nat}
theorem VB:PHs X [] Xj:=λ_ _ _ _ _ _ _ _ _ _ h=>h.elim
theorem Xk(hg:Gl X x)(hm:X.mg x=some (.ref T))(Y:Catch X.K T)(hN:X.N.Nodup)(hi:X.N[i]?=some n)(hk:X.env.kindOf n=some .local)(hs:∀ ev,PSs (Cx.hand X ev λ_ _=>False) (b₀::suite) ts)(hr:PHs X rest tr)
  (hd:(x==("__debug__":Str))=false:=by decide):PHs X (.ExceptHandler (some (.Name x np)) (some n) (b₀::suite) pos::rest) (hAs X.K T i ts tr):=by
 intro pins s σ H D e C d I fl h;obtain⟨Ca,b,rfl,hb,h⟩:=h;obtain⟨m,nh,oe,vs,he,hc,hrest⟩:=id fl;refine wpAny_handleBy_cons (codeAny_handlers_test (qu (X:=Cx.hand X (.ref e) X.xe) (Inv.hand I (.ref e) X.xe) hg hm ?_ hd)) (by intro q;cases q)
 refine caught I.kIn Y he hc hb ?_;cases b with
 |false=>exact hr pins s σ H D e _ d I fl h
 |true=>
  refine codeAny_handlers_suite_as (pX I fl λs1 I1 f1=>?_);refine u5 (Inv.track I1 f1) hN hi (.inl hk) (v:=.ref e) rfl (λs2 I2=>?_) (.inr hk);refine Za8 (hs (.ref e) pins s2 _ _ (Ends.gone D i) (Inv.hand I2 (.ref e) λ_ _=>False) (h e nh)) (λf s3 q=>?_) λ_ _ z=>z.elim
  ·cases f with
   |next=>obtain⟨σ',H',J,q⟩:=q;exact goes (Inv.Bh I.ok J) hN hi hk λs4 J4=>⟨_,H',J4,q⟩
   |brk=>obtain⟨σ',H',J,q⟩:=q;exact goes (Inv.Bh I.ok J) hN hi hk λs4 J4=>⟨_,H',J4,q⟩
   |cont=>obtain⟨σ',H',J,q⟩:=q;exact goes (Inv.Bh I.ok J) hN hi hk λs4 J4=>⟨_,H',J4,q⟩
   |ret u=>obtain⟨v,σ',H',J,r,q⟩:=q;exact goes (Inv.Bh I.ok J) hN hi hk λs4 J4=>⟨v,_,H',J4,r,q⟩
def T4(X:Cx)(body:List Stmt)(tb:XK->TS):Prop:=∀ (pins:List (Addr×Obj)) (σ:St) (E:XK) (xe:Value->Shared->Prop),(∀ (H:Hp) (s:Shared) (ev:Value) (s':Shared),Inv X pins σ H s->CXS X.prog X.w X.stack H s E ev s'->xe ev s') ->
 ∀ (s:Shared) (H:Hp) (D:Ends),Inv X pins σ H s->tb E D σ H->wpAny (model X.prog X.w) X.A (execs body X.env) (SP X pins D) xe s
def Xl(tb:XK->TS)(th:THs):TS:=λD σ H=>tb (λC d H'=>th C d D σ H') D σ H
theorem VD{h₀:ExceptHandler}{hs:List ExceptHandler}{tb:XK->TS}{th:THs}(hst:X.stack=X.env::X.outer)(hf:X.env.frame=some X.env.locals)(hb:T4 X body tb)(hh:PHs X (h₀::hs) th):PS X (.Try body (h₀::hs) [] [] pos) (Xl tb th):=by
 intro pins s σ H D I h;refine wpAny_Try_except (Za8 (hb pins σ _ (FlS X pins σ λC d H'=>th C d D σ H') (λH s ev s' I c=>FlS.RV I c) s H D I h) (λf s1 q=>?_) λev s1 q=>?_)
 ·cases f with
  |next=>exact Zaf q
  |brk=>exact q
  |cont=>exact q
  |ret u=>exact q
 ·obtain⟨e,C,d,H',rfl,I1,f1,q⟩:=q;exact Ep I1 hst hf f1 λs2 I2 f2 _=>pX I2 f2 λs3 I3 f3=>hh pins s3 σ H' D e C d I3 f3 q
end
def Xm(X:Cx)(e:Expr)(te:XK->TE):Prop:=∀ (pins:List (Addr×Obj)) (σ:St) (E:XK) (xe:Value->Shared->Prop),(∀ (H:Hp) (s:Shared) (ev:Value) (s':Shared),Inv X pins σ H s->CXS X.prog X.w X.stack H s E ev s'->xe ev s') ->
 ∀ (s:Shared) (H:Hp) (Q:VK),Inv X pins σ H s->te E σ H Q->wpAny (model X.prog X.w) X.A (eval e X.env) (EP X pins σ Q) xe s
section
variable{X:Cx}{k:Nat}{ps:List Str}{sp:Sp}{x:Str}{p pos:Pos}{e:Expr}{es:List Expr}{t:TA}{te:XK->TE}
theorem K5(G:Jr X.prog X.w X.K X.mg X.base x k ps sp)(hr:dw k X.A)(hg:Gl X x)(ha:PA X.nox (e::es) t)(hdb:(x==("__debug__":Str))=false:=by decide)
  (he:starEach (e::es) X.env=(false,eval e X.env)::starEach es X.env:=by rfl)(hpl:(backTo pos (starEach es X.env)).any (·.1)=false:=by rfl):Xm X (.Call (.Name x p) (e::es) [] pos) (λE=>lX sp [] E t):=by
 obtain⟨f,fd,hm,hk,hb,F⟩:=G;intro pins σ E xe hx s H Q I h;refine wpAny_Call_Name_kw (qu I hg hm ?_ hdb);refine PySem.W.callWith_K (h₀:=X.base) I.ok.mod.kin hk (Za8 (ha pos pins s σ H _ (I.wish _) h) (λus s1 ⟨vs,H1,I1,r,q⟩=>⟨I1.kIn,?_⟩) λ_ _ z=>z.elim) he hpl;have I1:=I1.jc;have q':sp (vs++[]) H1 Q E:=q;rw[ZaJ] at q';have hl:(us++[]).length=ps.length:=by rw[ZaJ,<-r.length];exact F.len _ _ _ _ q'
 have hb':=hb s1 us I1.kIn hl;rw[ZaJ] at hb';refine wpAny_call (codeAny_mono (F.run X.A X.stack s1 H1 ⟨us,[]⟩ us vs Q E hr I1.env0 hb' r q') λr s' hq=>?_);cases r with
 |error ev=>exact hx H1 s1 ev s' I1 hq
 |ok fl=>
  cases fl with
  |ret u=>exact I1.after hq
  |next=>exact False.elim hq
  |brk=>exact False.elim hq
  |cont=>exact False.elim hq
theorem VF{xe:Value->Shared->Prop}{pins:List (Addr×Obj)}{D:Ends}{st:Stmt}{s:Shared}(h:wpAny (model X.prog X.w) X.A (exec st X.env) (SP X pins D) xe s):wpAny (model X.prog X.w) X.A (execs [st] X.env) (SP X pins D) xe s:=by
 refine wpAny_execs_cons (thn h λf s1 q=>?_);cases f with
 |next=>exact wpAny_execs_nil q
 |ret v=>exact q
 |brk=>exact q
 |cont=>exact q
theorem K6(he:Xm X e te)(hs:swapsWith e none pos.line X.env=pure false:=by rfl):T4 X [.Expr e pos] (λE=>yu (te E)):=by
 intro pins σ E xe hp s H D I h;exact VF (wpAny_Expr_any (thn (he pins σ E xe hp s H _ I h) λv s1 ⟨x,H1,I1,r1,q1⟩=>⟨σ,H1,I1,q1⟩) I.quiet hs)
end
def XRS(K:PySem.W.Frag):Hp->Value->Option Addr->PV->Prop:=λF ev d z=>∃ c l Ca dx xs,z=.exc c l/\ev=.ref Ca/\d=some dx/\XNm K Ca c/\F dx=some (.xd xs)/\xs.map (·.1)=l.map (·.1)/\∀ (j:Nat) x p,xs[j]?=some x->l[j]?=some p->Rep K F x.2 p.2
def PrU(K:PySem.W.Frag){α:Type}(F H:Hp)(E:XK)(ok:α->Prop):Res α->Prop
 |.ok a=>ok a
 |.ex z=>∀ e d F' H',Up F H F' H'->XRS K F' e d z->E e d H'
def MJx{α:Type}(K:PySem.W.Frag)(C:Cg)(A:Rel α)(te:XK->TE)(f:Fn α):Prop:=
 ∀ E F H σ ρ Q r,RE K C.toCf F H σ ρ->f ρ=some r->PrU K F H E (λa=>∀ v F' H',Up F H F' H'->A F' H' v a->Q v H') r->te E σ H Q
def POx(K:PySem.W.Frag)(C:Cg)(F H:Hp)(E:XK)(D:Ends):Out->Prop
 |.ex z=>∀ e d F' H',Up F H F' H'->XRS K F' e d z->E e d H'
 |o=>PO' K C F D o
def MSx(K:PySem.W.Frag)(C:Cg)(tb:XK->TS)(b:Sn):Prop:=∀ E F H σ ρ D o,RE K C.toCf F H σ ρ->b ρ=some o->POx K C F H E D o->tb E D σ H
noncomputable abbrev Cq(C:Cg):Cg:=⟨C.toCf,XR0⟩
section
variable{K:PySem.W.Frag}{C:Cg}{t:TA}{f:Fn (List PV)}{m:List PV->Option (Res PV)}{te:XK->TE}{fe:Fn PV}
theorem OD(h:MA K (Cq C) t f):MJx K C (aF K) (λE=>lX (spM K (XRS K) m) [] E t) (bJ m f):=by
 intro E F H σ ρ Q r R e P;rcases bK e with⟨z,e1,rfl⟩|⟨l,e1,hk⟩
 ·exact h F H σ ρ _ _ R e1 λ_ _ _ _ _ _ x=>x.elim
 ·refine h F H σ ρ _ _ R e1 λxs F1 H1 u a=>?_;refine⟨l,F1,r,u.fh,by rw[ZaJ];exact a,hk,?_⟩
  cases r with
  |ok p=>exact λv F' H' u' rv=>P v F' H' (u.trans u') rv
  |ex z=>exact λe d F' H' u' x=>P e d F' H' (u.trans u') x
theorem OJ(h:MJx K C (aF K) te fe):MSx K C (λE=>yu (te E)) (yL fe):=by
 intro E F H σ ρ D o R e P;rcases b7 e with⟨z,e1,rfl⟩|⟨p,e1,hk⟩
 ·exact h E F H σ ρ _ _ R e1 P
 ·cases hk;exact h E F H σ ρ _ _ R e1 λv F1 H1 u a=>P F1 H1 σ u.ff (R.up u)
def MHs(K:PySem.W.Frag)(C:Cg)(th:THs)(h:PV->Sn):Prop:=∀ F H σ ρ D o z ev d,RE K C.toCf F H σ ρ->XRS K F ev d z->h z ρ=some o->PO' K C F D o->th ev d D σ H
def HB(b:Sn)(h:PV->Sn):Sn:=λρ=>match b ρ with
 |some (.ex z)=>h z ρ
 |o=>o
theorem VG{tb:XK->TS}{th:THs}{b:Sn}{h:PV->Sn}(hb:MSx K C tb b)(hh:MHs K C th h):MS K C (Xl tb th) (HB b h):=by
 intro F H σ ρ D o R e P;unfold HB at e;split at e
 ·rename_i z hz;refine hb _ F H σ ρ D (.ex z) R hz λev d F' H' u x=>?_;exact hh F' H' σ ρ D o z ev d (R.up u) x e (P.up u.ff)
 ·rename_i hn;refine hb _ F H σ ρ D o R e ?_;cases o with
  |ex z=>exact absurd e (hn z)
  |nx ρ=>exact P
  |bk ρ=>exact P
  |ct ρ=>exact P
  |rt p=>exact P
  |ro p=>exact P
  |rd p=>exact P
def T8:PV->Sn:=λ_ _=>none
theorem VH:MHs K C Xj T8:=λ_ _ _ _ _ _ _ _ _ _ _ e=>by cases e
def T9(K:PySem.W.Frag)(c t:Str)(b:Bool):Prop:=∃ Ca T,nsIn K mainGlobals c=some (some (.ref Ca))/\nsIn K mainGlobals t=some (some (.ref T))/\PySem.W.subIn K (.ref Ca) (.ref T)=some b
def Ua(i:Nat):Option Out->Option Out
 |some (.nx ρ)=>some (.nx (ρ.set i none))
 |some (.bk ρ)=>some (.bk (ρ.set i none))
 |some (.ct ρ)=>some (.ct (ρ.set i none))
 |o=>o
def RX(sub:Str->Option Bool)(i:Nat)(suite:Sn)(rest:PV->Sn):PV->Sn:=λz ρ=>match z with
 |.exc c _=>(match sub c with
  |some true=>Ua i (suite (ρ.set i (some (.sh z))))
  |some false=>rest z ρ
  |none=>none)
 |_=>none
theorem RE.gone{Cc:Cf}{F H:Hp}{σ:St}{ρ:Rho}(h:RE K Cc F H σ ρ)(i:Nat):RE K Cc F H (σ.set i none) (ρ.set i none) where
 rb:=h.rb
 len:=by simp[h.len]
 sh:=λj q e=>by
  rcases get_set e with⟨e1,e2⟩|⟨e1,e2⟩
  ·cases e2
  ·obtain⟨w,e3,e4⟩:=h.sh j q e2;exact⟨w,by rw[Zak e1];exact e3,e4⟩
 ow:=λj q e=>by
  rcases get_set e with⟨e1,e2⟩|⟨e1,e2⟩
  ·cases e2
  ·obtain⟨w,e3,e4⟩:=h.ow j q e2;exact⟨w,by rw[Zak e1];exact e3,e4⟩
 dis:=λj k q q' a e e' f f'=>by
  rcases get_set e with⟨e1,e2⟩|⟨e1,e2⟩
  ·cases e2
  ·rcases get_set e' with⟨e1',e2'⟩|⟨e1',e2'⟩
   ·cases e2'
   ·rw[Zak e1] at f;rw[Zak e1'] at f';exact h.dis j k q q' a e2 e2' f f'
 dd:=let⟨P,d⟩:=h.dd;⟨P,d.own,d.dis,λj k q b z e f=>by
   rcases get_set e with⟨e1,e2⟩|⟨e1,e2⟩
   ·cases e2
   ·rw[Zak e1] at f;exact d.ow j k q b z e2 f,λj q e=>by
   rcases get_set e with⟨e1,e2⟩|⟨e1,e2⟩
   ·cases e2
   ·obtain⟨w,e3,e4⟩:=d.dp j q e2;exact⟨w,by rw[Zak e1];exact e3,e4⟩⟩
theorem Xn{T:Addr}{tn:Str}{i:Nat}{ts:TS}{tr:THs}{sub:Str->Option Bool}{suite:Sn}{rest:PV->Sn}(hT:nsIn K mainGlobals tn=some (some (.ref T)))(hsub:∀ c b,sub c=some b->T9 K c tn b)
  (hs:MS K C ts suite)(hr:MHs K C tr rest):MHs K C (hAs K T i ts tr) (RX sub i suite rest):=by
 intro F H σ ρ D o z ev d R x e P;obtain⟨c,l,Ca,dx,xs,rfl,rfl,rfl,nm,hd,hl,hr'⟩:=id x;unfold RX at e;dsimp only at e;split at e
 ·rename_i hb;obtain⟨Ca',T',h1,h2,h3⟩:=hsub c _ hb;rw[nm.ns] at h1;cases h1;rw[hT] at h2;cases h2;refine⟨Ca,true,rfl,h3,?_⟩;rw[Zag rfl];intro a na;have u:Up F H (upd F a (XO a Ca (some dx))) (upd H a (XO a Ca (some dx))):=Up.new R.rb.sub na;have rep:Rep K (upd F a (XO a Ca (some dx))) (.ref a) (.exc c l):=.exc nm au (u.ff _ _ hd) hl λj x p a b=>(hr' j x p a b).up u.ff;cases ho:suite (ρ.set i (some (.sh (.exc c l)))) with
  |none=>rw[ho] at e;cases e
  |some oo=>
   rw[ho] at e;refine hs _ _ _ _ (Ends.gone D i) oo ((R.up u).set i rep) ho ?_;cases oo with
   |nx ρ'=>cases e;exact λF' H' σ' s' R'=>P F' H' _ (u.ff.trans s') (R'.gone i)
   |bk ρ'=>cases e;exact λF' H' σ' s' R'=>P F' H' _ (u.ff.trans s') (R'.gone i)
   |ct ρ'=>cases e;exact λF' H' σ' s' R'=>P F' H' _ (u.ff.trans s') (R'.gone i)
   |rt p=>cases e;exact λv F' H' s' rb rv=>P v F' H' (u.ff.trans s') rb rv
   |ro p=>cases e;exact λv F' H' s' rb rv=>P v F' H' (u.ff.trans s') rb rv
   |rd p=>cases e;exact λv F' H' S s'=>P v F' H' S (u.ff.trans s')
   |ex z=>cases e;exact PX.up P u.ff
 ·rename_i hb;obtain⟨Ca',T',h1,h2,h3⟩:=hsub c _ hb;rw[nm.ns] at h1;cases h1;rw[hT] at h2;cases h2;refine⟨Ca,false,rfl,h3,?_⟩;rw[Zae (by decide)]
  exact hr F H σ ρ D o _ _ _ R x e P
 ·cases e
end
def spI(Ca:Addr)(fs:List Str):Sp:=λvs H Q _=>∃ e args,vs=.ref e::args/\args.length=fs.length/\H e=some (XN e Ca none) /\
 ∀ dx H',H dx=none->H' e=some (XN e Ca (some dx))->H' dx=some (XD dx (fs.zip args))->(∀ b,b≠e->b≠dx->H' b=H b)->Q .non H'
theorem RZ{Ca:Addr}{fs:List Str}{vs:List V}{H:Hp}{Q:VK}{E:XK}(h:spI Ca fs vs H Q E):vs.length=fs.length+1:=by
 obtain⟨e,args,rfl,hl,_⟩:=h;simp[hl]
section
variable{K:PySem.W.Frag}{Ca:Addr}{cd:ClassData}{vs:List V}{H:Hp}{Q:VK}{E:XK}{N:List Str}{f1 f2:Str}
theorem oA{vs:List V}{i:Nat}{v:V}(h:vs[i]?=some v):(start N vs)[i]?=some (some v):=by
 unfold start;have hi:i<vs.length:=(Zac.mp h).1;rw[Zaj (by simpa using hi),List.getElem?_map,h];rfl
theorem K7(Y:XCls K Ca cd)(n1:PySem.W.findIn K (.ref Ca) f1=some none)(n2:PySem.W.findIn K (.ref Ca) f2=some none)(d12:f1≠f2)(h:spI Ca [f1,f2] vs H Q E) :
  Qs (sX0 K (iZ 0) (iZ 1) f1) (sX1 K (iZ 0) (iZ 2) f2) { nx:=λ_ H'=>Q .non H',rt:=Q } (start N vs) H:=by
 obtain⟨e,args,rfl,hl,he,h⟩:=h
 match args,hl with
 |[v1,v2],_=>
  refine⟨v1,oA rfl,.ref e,oA rfl,e,Ca,cd,rfl,he,Y,n1,λdx nd=>?_⟩;have ne:dx≠e:=λz=>by rw[z,he] at nd;cases nd
  refine⟨v2,oA rfl,.ref e,oA rfl,e,Ca,cd,dx,[(f1,v1)],rfl,au,by rw[aq ne,au],by simp,Y,n2,h dx _ nd ?_ ?_ λb b1 b2=>?_⟩
  ·rw[aq (ZaX ne),au]
  ·rw[au];show some (XD dx (mq f2 v2 [(f1,v1)]))=_
   simp only[mq,Zae d12];rfl
  ·rw[aq b2,aq b1,aq b2]
end
section
variable{K:PySem.W.Frag}{C:Cg}{t:TA}{f:Fn (List PV)}{Ca:Addr}{c:Str}{fs:List Str}
def wJ(c:Str)(fs:List Str)(f:Fn (List PV)):Sn:=λρ=>fP (f ρ) λl=>if l.length=fs.length then some (.ex (.exc c (fs.zip l))) else none
theorem MA.sW{ta:TA}{F H:Hp}{σ:St}{ρ:Rho}{D:Ends}{o:Out}{Q:List V->Hp->Prop}{k:List PV->Option Out}(h:MA K C ta f)(R:RE K C.toCf F H σ ρ)(hb:fP (f ρ) k=some o)(P:PO' K C F D o)
  (go:∀ l xs F1 H1,k l=some o->Up F H F1 H1->bh K F1 xs l->Q xs H1):ta σ H Q:=by
 rcases b7 hb with⟨z,e,rfl⟩|⟨p,e,hk⟩
 ·exact h F H σ ρ Q _ R e P
 ·exact h F H σ ρ Q _ R e λxs F1 H1 u a=>go p xs F1 H1 hk u a
theorem Bj{α β:Type}:∀ {fs:List α}{l:List β},l.length=fs.length->(fs.zip l).map (·.1)=fs
 |[],[],_=>rfl
 |f::fs,x::l,h=>by simp only[List.zip_cons_cons,Zan];rw[Bj (by simpa using h)]
theorem O1(hX:C.XR=XRS K)(nm:XNm K Ca c)(hz:fs.length<=sizeLine)(h:MA K C t f):MS K C (uU Ca (spI Ca fs) C.E t) (wJ c fs f):=by
 intro F H σ ρ D o R e P;refine h.sW R e P λl xs F1 H1 hk u a=>?_;split at hk
 ·rename_i hl;cases hk;refine⟨by rw[a.1,hl];exact hz,λb nb=>⟨b,xs,rfl,by rw[a.1,hl],au,λdx H' nd h1 h2 h3=>⟨rfl,dx,fs.zip xs,h1,h2,?_,?_⟩⟩⟩
  ·intro z;subst z;rw[au] at nd;cases nd
  ·have ne:dx≠b:=λz=>by subst z;rw[au] at nd;cases nd
   have nd1:H1 dx=none:=by rw[aq ne] at nd;exact nd
   have eq:upd (del H' b) dx (.xd (fs.zip xs))=upd H1 dx (.xd (fs.zip xs)):=by
    funext g
    by_cases g1:g=dx
    ·subst g1;rw[au,au]
    ·rw[aq g1,aq g1];by_cases g2:g=b
     ·subst g2;rw[Er,nb]
     ·rw[pY g2,h3 g g2 g1,aq g2]
   rw[eq];have u2:Up F1 H1 (upd F1 dx (.xd (fs.zip xs))) (upd H1 dx (.xd (fs.zip xs))):=Up.new u.fh nd1;have ut:=u.trans u2;refine P (.ref Ca) (some dx) _ _ ut.ff (R.rb.up ut) ?_;rw[hX];refine⟨c,fs.zip l,Ca,dx,fs.zip xs,rfl,rfl,rfl,nm,au,?_,λj x p e1 e2=>?_⟩
   ·rw[Bj (by rw[a.1,hl]),Bj hl]
   ·have z1:=ZbK.mp e1;have z2:=ZbK.mp e2;exact(a.2 j _ _ z1.2 z2.2).up u2.ff
 ·cases hk
end
noncomputable abbrev CE(K:PySem.W.Frag)(E:XK)(io:Addr->Prop)(H0 F0:Hp):Cg:=⟨⟨io,True,H0,F0,E⟩,XRS K⟩
section
variable{K:PySem.W.Frag}{N:List Str}{vs:List V}{H:Hp}{Q:VK}{E:XK}{t:TS}{b:Sn}{m:List PV->Option (Res PV)}
theorem R4{k n:Nat}(hk:N.length=k+n)(hm:∀ ps r,m ps=some r->ps.length=k/\fin (b (startR ps n))=some r)(h:spM K (XRS K) m vs H Q E)(hS:∀ (io:Addr->Prop) (H0 F0:Hp),(∀ a,¬io a)->MS K (CE K E io H0 F0) t b) :
  t { nx:=λ_ H'=>Q .non H',rt:=Q } (start N vs) H:=by
 obtain⟨ps,F,r,s,rp,e,P⟩:=h;obtain⟨hl,e⟩:=hm ps r e;have R:=qQ (E:=E) (N:=N) (n:=n) s rp (by rw[rp.1,hl];exact hk)
 have up:∀ {F' H':Hp},aP F F'->RB ⟨λ_=>False,True,H,F,E⟩ F' H'->Up F H F' H':=λs' rb=>⟨s',λc o q=>rb.keep c o q id,rb.new,rb.sub⟩;have M:=hS (λ_=>False) H F (λ_ h=>h);cases ho:b (startR ps n) with
 |none=>rw[ho] at e;cases e
 |some o=>
  rw[ho] at e;refine M F H _ _ _ o R ho ?_;cases o with
  |nx ρ=>cases e;exact λF' H' σ s' R'=>P .non F' H' (up s' R'.rb) .non
  |rt p=>cases e;exact λv F' H' s' rb rv=>P v F' H' (up s' rb) rv
  |ex z=>cases e;exact λev d F' H' s' rb x=>P ev d F' H' (up s' rb) x
  |ro p=>cases e
  |rd p=>cases e
  |bk ρ=>cases e
  |ct ρ=>cases e
variable{C:Cg}{ta:TA}{f:Fn (List PV)}
theorem Es(h:MA K C ta f):MJ K C (aF K) (lX (spM K XR0 m) [] E0 ta) (bJ m f):=by
 intro F H σ ρ Q r R e P;refine h.run R e P λl xs F1 H1 hk u a=>?_;refine⟨l,F1,r,u.fh,by rw[ZaJ];exact a,hk,?_⟩
 cases r with
 |ok p=>exact λv F' H' u' rv=>P v F' H' (u.trans u') rv
 |ex z=>exact λe d F' H' u' x=>x.elim
theorem wK(h:MA K C ta f):MO K C (lX (spO K XR0 m) [] E0 ta) (bJ m f):=by
 intro F H σ ρ Q r R e P;refine h.run R e P λl xs F1 H1 hk u a=>?_;refine⟨l,F1,r,u.fh,by rw[ZaJ];exact a,hk,?_⟩
 cases r with
 |ok p=>exact λv F' H' u' n1 n2 rv=>P v F' H' (u.trans u') (u.hh.free n1) n2 rv
 |ex z=>exact λe d F' H' u' x=>x.elim
end
section
variable{P:Program}{w:World}{K:PySem.W.Frag}{mg:Str->Option Value}{base:Heap}
theorem bu.okX{x:Str}{st:Stmt}{ps N:List Str}{k:Nat}{sp:Sp}(D:bu K mg x st ps)(S:bx N ps (aL st))(len:∀ vs H Q E,sp vs H Q E->vs.length=ps.length)
  (hbody:∀ (f:Addr) (cdv:Value) (A:Around) (outer:List Env) (s:Shared) (H:Hp) (vs:List V) (Q:VK) (E:XK),dw k (A.deeper (envOfC x (aL st) s.heap.objs.size f cdv))->sp vs H Q E ->
   ∃ t,PSs (cxX P w K mg base N x (aL st) f cdv A outer s H E) (aZ st) t/\t { nx:=λ_ H'=>Q .non H',rt:=Q } (start N vs) H):Jr P w K mg base x (k+1) ps sp:=by
 obtain⟨f,fd,e,F,b⟩:=D.ex;obtain⟨oc,od,kV,doc,pm,an,cdv,ct,osl,rfl,lk,hcd⟩:=F.ex;refine⟨f,_,e,F.kp,b,Te lk hcd S len λA outer s H vs Q E hr hsp=>?_⟩;obtain⟨t,h,q⟩:=hbody f cdv A outer s H vs Q E hr hsp;exact⟨t,PSs.ofX (λe s' z=>leaves z) h,q⟩
end
open PySem PySem.Spec PyProof.Rows PySem.Calls PySem.W Builtin Builtin.ObjectAttr
theorem O2{prog:Program}{w:World}{A:Around}{E:Value->Shared->Prop}{s:Shared}{K:Frag}{x C:Addr}{ox:Obj}{od:Option Obj}{name:Str}{expr:Bool}{Q:Value->Shared->Prop}{v:Value}(X:K.In s.heap)(I:InstAt s.heap x ox C od)(hga:findIn K (.ref C) "__getattribute__"=some (some (.builtin "BaseException.__getattribute__")))
  (hgn:findIn K (.ref C) "__getattr__"=some none)(hb:subIn K (.ref C) (.type "BaseException")=some true)
  (hf:findObj K C od name=some (.value v))(hh:handedIn v=true)(h:Q v { s with toks:=s.toks+1 }):wpAny (model prog w) A (getAttr (.ref x) name expr) Q E s:=by
 obtain⟨hp,g,d,t,os⟩:=s;have L0:=I.type (M:=model prog w);have L1:=looks_findIn (M:=model prog w) X hga;have L2:=looks_findIn (M:=model prog w) X hgn;have L3:=looks_find (M:=model prog w) X I hf;have LB:Looks (model prog w) hp (isInstance (.ref x) (.type "BaseException")) true:=L0.andThen (looks_subIn X hb);have f3:=ZbP.ga.bind (.ref x);have hx0:(expr&&onTheHeap (Value.builtin "BaseException.__getattribute__"))=false:=by cases expr<;>rfl
 have hx2:(Value.builtin "BaseException.__getattribute__"==Value.builtin "object.__getattribute__")=false:=by decide +kernel
 have hx1:(onTheHeap (Value.ref C)&&Value.builtin "BaseException.__getattribute__"==Value.builtin "object.__getattribute__")=false:=by rw[hx2];rfl
 unfold getAttr getAttrBy;refine Zaa (wpAny_mkText (wpAny_holding (Zaa (L0.at (Zaa (L1.at ?_))))));dsimp only;repeat (any_goals (first|assumption|with_reducible refine L2.at ?_|wp_step))
 have ha:argsOk "BaseException.__getattribute__" ⟨[.ref x,.str name t],[]⟩:=by unfold argsOk;kernel_rfl
 refine codeAny_call_builtin ZbP.ga.plain PySem.F.entry_bexc_ga (check_slot (i:="BaseException.__getattribute__") (owner:="BaseException") (n:="__getattribute__") (by decide +kernel) (by decide +kernel) LB ha ?_)
 unfold Builtin.«object.__getattribute__»;repeat (any_goals (first|assumption|with_reducible refine L0.at ?_|with_reducible refine L3.at ?_|wp_step))
 show wpAny _ _ (handedOut v) _ _ _
 rw[handedOut_of hh];exact Zaf h
theorem HD{prog:Program}{w:World}{A:Around}{E:Value->Shared->Prop}{s:Shared}{K:Frag}{x C:Addr}{ox:Obj}{od:Option Obj}{Q:Option Value->Shared->Prop}(X:K.In s.heap)(I:InstAt s.heap x ox C od)(hga:findIn K (.ref C) "__getattribute__"=some (some (.builtin "BaseException.__getattribute__")))
  (hgn:findIn K (.ref C) "__getattr__"=some none)(hb:subIn K (.ref C) (.type "BaseException")=some true)
  (hf:findObj K C od "__class__"=some (.bind (.builtin "getset_descriptor.__get__") (.builtin "object.__class__")))(hm:mroIn K C (.type "object")=some true)
  (h:Q (some (.ref C)) { s with toks:=s.toks+1 }):wpAny (model prog w) A (getAttr? (.ref x) "__class__") Q E s:=by
 obtain⟨hp,g,d,t,os⟩:=s;have L0:=I.type (M:=model prog w);have L1:=looks_findIn (M:=model prog w) X hga;have L2:=looks_findIn (M:=model prog w) X hgn;have L3:=looks_find (M:=model prog w) X I hf;have LB:Looks (model prog w) hp (isInstance (.ref x) (.type "BaseException")) true:=L0.andThen (looks_subIn X hb);have f3:=ZbP.ga.bind (.ref x);have hx2:(Value.builtin "BaseException.__getattribute__"==Value.builtin "object.__getattribute__")=false:=by decide +kernel
 have hx1:(onTheHeap (Value.ref C)&&Value.builtin "BaseException.__getattribute__"==Value.builtin "object.__getattribute__")=false:=by rw[hx2];rfl
 unfold getAttr? getAttrBy?;repeat (any_goals (first|assumption|with_reducible refine L0.at ?_|with_reducible refine L1.at ?_|with_reducible refine L2.at ?_|wp_step))
 have ha:argsOk "BaseException.__getattribute__" ⟨[.ref x,.str "__class__" t],[]⟩:=by unfold argsOk;kernel_rfl
 refine codeAny_call_builtin ZbP.ga.plain PySem.F.entry_bexc_ga (check_slot (i:="BaseException.__getattribute__") (owner:="BaseException") (n:="__getattribute__") (by decide +kernel) (by decide +kernel) LB ha ?_)
 unfold Builtin.«object.__getattribute__»;repeat (any_goals (first|assumption|with_reducible refine L0.at ?_|with_reducible refine L3.at ?_|wp_step))
 refine class_get (ox:=ox) (od:=od) X I hm ?_;repeat (any_goals (first|assumption|wp_step))
structure XI(K:Frag)(C:Addr):Prop where
 ga:findIn K (.ref C) "__getattribute__"=some (some (.builtin "BaseException.__getattribute__"))
 gn:findIn K (.ref C) "__getattr__"=some none
 be:subIn K (.ref C) (.type "BaseException")=some true
 hd:hasDictIn K C=true
 cl:findIn K (.ref C) "__class__"=some (some (.builtin "object.__class__"))
 sp:specialIn K (.builtin "object.__class__") "__get__"=some (some (.builtin "getset_descriptor.__get__"))
 tk:takesIn K (.builtin "object.__class__")=some true
 ob:mroIn K C (.type "object")=some true
theorem O3{K:Frag}{x D:Addr}{ox od:Obj}(Y:XI K D):KitX K (.ref x) (.ref D) (λh=>InstAt h x ox D (some od)) where
 ty:=λ_ _ _ I=>I.type
 it:=λ_ _ X _=>by
  obtain⟨cdD,hcD,_⟩:=any_some Y.hd;unfold clsIn at hcD;split at hcD
  ·rename_i c' d' cd' sl' ho;intro A' Q' E' s' k q;unfold isType loadHead;exact Zaa (wpAny_loadPart (k _ _ (X _ _ ho)) (Zaf q))
  ·cases hcD
 ne:=λh tp dd its n sl X htp=>by
  obtain⟨cdD,hcD,_⟩:=any_some Y.hd;refine Bool.eq_false_iff.mpr λq=>?_;have e:D=tp:=Value.ref.inj (beq_iff_eq.mp q);subst e;unfold clsIn at hcD;split at hcD
  ·rename_i c' d' cd' sl' ho;have z:=(X _ _ ho).symm.trans htp;cases z
  ·cases hcD
 ca:=λX I k=>HD X I Y.ga Y.gn Y.be (findObj_data (by obtain⟨cd,hc,_⟩:=any_some Y.hd;rw[hc];rfl) Y.cl Y.sp Y.tk) Y.ob k
structure KCl(K:Frag)(T:Addr):Prop where
 cls:∃ oc od cd sl,K.lookup T=some ⟨oc,od,.cls cd,sl⟩
 ty:typeIn K (.ref T)=some (.type "type")
theorem dh{K:Frag}{t:Value}{T:Addr}{b:Bool}(Y:KCl K T)(hs:subIn K t (.ref T)=some b)(hb:t=.ref T->b=true):kitOne K t (.ref T)=some b:=by
 unfold kitOne;split
 ·rename_i e;rw[hb (beq_iff_eq.mp e)]
 ·obtain⟨oc,od,cd,sl,hl⟩:=Y.cls;unfold kitCls;dsimp only;rw[Zag (by unfold clsIn;rw[hl,Y.ty];rfl)]
  exact hs
theorem K8{K:Frag}{C:Addr}{T:String}{b:Bool}(hm:kitMeta T=true)(hs:subIn K (.ref C) (.type T)=some b):kitOne K (.ref C) (.type T)=some b:=by
 unfold kitOne;rw[Zae (by simp)]
 unfold kitCls;dsimp only;rw[Zag hm];exact hs
def VJ(K:PySem.W.Frag)(T:V)(Tv:Value):List V->Hp->VK->Prop:=λxs H Q=>∃ x b,xs=[x,T]/\((∃ a C dx fs,x=.ref a/\H a=some (XO a C (some dx))/\H dx=some (.xd fs)/\XI K C/\PySem.W.kitOne K (.ref C) Tv=some b) \/
 (x=.non/\PySem.W.kitOne K (.type "NoneType") Tv=some b))/\Q (.bl b) H
section
variable{X:Cx}{pins:List (Addr×Obj)}{σ:St}{H:Hp}{s:Shared}
theorem XO.inst(I:Inv X pins σ H s){a C dx:Addr}{fs:List (Str×V)}(h:H a=some (XO a C (some dx)))(hd:H dx=some (.xd fs)):∃ ox od mA,PySem.W.InstAt s.heap a ox C (some od)/\s.heap.Ns1 dx mA/\(∀ f,mF (fs.lookup f) (mA f)) /\
  ∃ vs:Array Value,s.heap.get? a=some { cls:=.ref C,dict:=some dx,data:=.fields vs }:=by
 obtain⟨vs,e⟩:=XO.at I h;obtain⟨mA,n,r⟩:=I.hok _ _ hd;obtain⟨od,ho,hl⟩:=sJ n;exact⟨_,od,mA,⟨e,rfl,rfl,ho⟩,n,r,vs,e⟩
theorem kh{T:V}{Tv:Value}(hT:RelV T Tv)(hu:∀ u,RelV T u->u=Tv):lW X (.builtin "isinstance") (VJ X.K T Tv):=by
 intro pins s σ H xs us Q I rv h;obtain⟨x,b,rfl,h,q⟩:=h;obtain⟨u,v,rfl,ru,rv'⟩:=rv.two;obtain rfl:=hu v rv';have fin:∀ tk,EP X pins σ Q (.bool b) { s with toks:=tk }:=λtk=>⟨.bl b,H,I.tok _,rfl,q⟩;rcases h with⟨a,C,dx,fs,rfl,ha,hd,Y,e⟩|⟨rfl,e⟩
 ·cases ru;obtain⟨ox,od,mA,J,_⟩:=XO.inst I ha hd;exact Zbt (O3 Y) I.kIn J e (λz=>nomatch z) fin
 ·cases ru;exact Zbt PySem.W.kitx_none I.kIn True.intro e (λz=>nomatch z) fin
def O4(K:PySem.W.Frag)(te:TE)(f:Str):TE:=λσ H Q=>te σ H λx H1=>∃ a C dx fs v,x=.ref a/\H1 a=some (XO a C (some dx))/\H1 dx=some (.xd fs)/\XI K C/\PySem.W.findIn K (.ref C) f=some none/\fs.lookup f=some v/\Q v H1
theorem R5{e:Expr}{te:TE}{f:Str}{pos:Pos}(he:PE X e te)(hb:attributeBase e f X.env (eval e X.env)=eval e X.env):PE X (.Attribute e f pos) (O4 X.K te f):=by
 intro pins s σ H Q I h;refine Qu hb (thn (he pins s σ H _ I h) ?_);rintro u s1 ⟨x,H1,I1,rx,a,C,dx,fs,v,ex,ea,ed,Y,n,l,q⟩;subst ex;obtain rfl:u=Value.ref a:=rx;obtain⟨ox,od,mA,J,n1,r,vs,hx⟩:=XO.inst I1 ea ed;have rf:=r f;rw[l] at rf;cases hv:mA f with
 |none=>rw[hv] at rf;exact rf.elim
 |some u'=>
  rw[hv] at rf;have rf:RelV v u':=rf;obtain⟨od2,ho2,hl2⟩:=sJ n1;have J2:PySem.W.InstAt s1.heap a _ C (some od2):=⟨hx,rfl,rfl,ho2⟩;exact O2 I1.kIn J2 Y.ga Y.gn Y.be (PySem.W.findObj_own Y.hd n rfl (by rw[hl2,hv])) (J6 rf) ⟨v,H1,I1.tok _,rf,q⟩
end
section
variable{K:PySem.W.Frag}{C:Cg}{te:TE}{f:Fn PV}
def Bl(sub:Str->Option Bool)(no:Bool)(f:Fn PV):Fn PV:=λρ=>bnd (f ρ) λp=>match p with
 |.exc c (_::_)=>(sub c).map λb=>.ok (.bl b)
 |.non=>some (.ok (.bl no))
 |_=>none
theorem Rep.Jt{F:Hp}{v:V}{c:Str}{x:Str×PV}{l:List (Str×PV)}(h:Rep K F v (.exc c (x::l))):∃ a Ca dx xs,v=.ref a/\XNm K Ca c/\F a=some (XO a Ca (some dx))/\F dx=some (.xd xs)/\xs.map (·.1)=(x::l).map (·.1)/\∀ (j:Nat) y p,xs[j]?=some y->(x::l)[j]?=some p->Rep K F y.2 p.2:=by
 generalize hq:PV.exc c (x::l)=q at h
 cases h with
 |exc nm h1 h2 h3 h4=>cases hq;exact⟨_,_,_,_,rfl,nm,h1,h2,h3,h4⟩
 |exc0 nm h1=>cases hq
 |_=>cases hq
def HF(K:PySem.W.Frag)(c:Str)(Tv:Value)(b:Bool):Prop:=∃ Ca,nsIn K mainGlobals c=some (some (.ref Ca))/\XI K Ca/\PySem.W.kitOne K (.ref Ca) Tv=some b
theorem tK{T:V}{Tv:Value}{sub:Str->Option Bool}{no:Bool}(hs:∀ c b,sub c=some b->HF K c Tv b)(hno:PySem.W.kitOne K (.type "NoneType") Tv=some no)(h:MJ K C (aH K) te f) :
  MJ K C (aF K) (tCB (VJ K T Tv) (jd te (jd (tC T) vh))) (Bl sub no f):=by
 intro F H σ ρ Q r R e P;refine h.run R e P λp v F1 H1 hk u a=>?_;show VJ K T Tv [v,T] H1 Q
 split at hk
 ·rename_i c x l;obtain⟨b,hb,rfl⟩:=Zbi.mp hk;obtain⟨Ca,n1,Y,k⟩:=hs c b hb;obtain⟨a',Ca',dx,xs,rfl,nm,h1,h2,_,_⟩:=Rep.Jt a;rw[nm.ns] at n1;cases n1;exact⟨_,b,rfl,.inl ⟨a',Ca,dx,xs,rfl,h1,h2,Y,k⟩,P _ F1 H1 u .bl⟩
 ·cases hk;cases a;exact⟨_,no,rfl,.inr ⟨rfl,hno⟩,P _ F1 H1 u .bl⟩
 ·cases hk
def wL(names:Str->Bool)(g:Str)(f:Fn PV):Fn PV:=λρ=>bnd (f ρ) λp=>match p with
 |.exc c (x::l)=>if names c=true then((x::l).lookup g).map .ok else none
 |_=>none
theorem rJ{K:PySem.W.Frag}{F:Hp}{g:Str}:∀ {xs:List (Str×V)}{l:List (Str×PV)}{p:PV},xs.map (·.1)=l.map (·.1)->(∀ (j:Nat) y q,xs[j]?=some y->l[j]?=some q->Rep K F y.2 q.2)->l.lookup g=some p->∃ v,xs.lookup g=some v/\Rep K F v p
 |[],[],_,_,_,h=>by simp at h
 |[],_::_,_,h,_,_=>by simp at h
 |_::_,[],_,h,_,_=>by simp at h
 |(k,v)::xs,(k',q)::l,p,h,r,e=>by
  simp only[Zan,Zbw] at h;obtain⟨rfl,h⟩:=h;have r0:=r 0 (k,v) (k,q) rfl rfl;by_cases hg:(g==k)=true
  ·simp only[List.lookup,hg] at e ⊢;cases e;exact⟨v,rfl,r0⟩
  ·rw[Bool.not_eq_true] at hg;simp only[List.lookup,hg] at e ⊢;exact rJ h (λj y q a b=>r (j+1) y q (by simpa using a) (by simpa using b)) e
theorem uV{names:Str->Bool}{g:Str}(hs:∀ c,names c=true->∃ Ca,nsIn K mainGlobals c=some (some (.ref Ca))/\XI K Ca/\PySem.W.findIn K (.ref Ca) g=some none)(h:MJ K C (aF K) te f):MJ K C (aF K) (O4 K te g) (wL names g f):=by
 intro F H σ ρ Q r R e P;refine h.run R e P λp v F1 H1 hk u a=>?_;split at hk
 ·rename_i c x l;split at hk
  ·rename_i hc;obtain⟨p,hp,rfl⟩:=Zbi.mp hk;obtain⟨Ca,n1,Y,k⟩:=hs c hc;obtain⟨a',Ca',dx,xs,rfl,nm,h1,h2,h3,h4⟩:=Rep.Jt a;rw[nm.ns] at n1;cases n1;obtain⟨v,hv,rv⟩:=rJ h3 h4 hp;exact⟨a',Ca,dx,xs,v,rfl,u.fh _ _ h1,u.fh _ _ h2,Y,k,hv,P v F1 H1 u rv⟩
  ·cases hk
 ·cases hk
end
section
variable{X:Cx}{x:Str}{T:Addr}{pos:Pos}
theorem Et(hg:Gl X x)(h:X.mg x=some (.ref T))(hd:(x==("__debug__":Str))=false:=by decide):PE X (.Name x pos) (tC (.ref T)):=Ik hg h rfl hd
end
theorem VL{K:PySem.W.Frag}{C f:Addr}{dd:Option Addr}{cd:ClassData}{k0 k1 k2 k3 k5:Option Value}{bm:List Value}
  (l:K.lookup C=some ⟨.type "type",dd,.cls cd,#[k0,k1,k2,k3,some (.builtin "ValueError.__new__"),k5]⟩)(h1:cd.hasDel=false)(h2:cd.hasDict=true)(h3:cd.mro=.ref C::bm)(h4:gF bm=true)
  (sa:PySem.W.findIn K (.ref C) "__setattr__"=some (some (.builtin "object.__setattr__")))(init:PySem.W.findIn K (.ref C) "__init__"=some (some (.ref f)))(fn:PySem.W.typeIn K (.ref f)=some (.type "function"))(kp:keepIn K (.ref C)=true):XMk K C f cd:=by
 refine⟨⟨?_,by rw[h3];exact h4,h2,sa⟩,?_,init,fn,kp⟩
 ·unfold PySem.W.clsIn;rw[l]
 ·obtain⟨nm,bs,mro,ns,q,hd,sn,sub,ab,col,hdel⟩:=cd;dsimp only at h1 h2 h3;subst h1 h2 h3;exact⟨nm,q,ns,bs,bm,sn,sub,ab,col,dd,k0,k1,k2,k3,k5,l,rfl⟩
theorem VM{K:PySem.W.Frag}{C:Addr}{c:Str}{oc:Value}{dd:Option Addr}{cd:ClassData}{sl:Array (Option Value)}(n:nsIn K mainGlobals c=some (some (.ref C)))(l:K.lookup C=some ⟨oc,dd,.cls cd,sl⟩)(h:cd.name=c):XNm K C c:=
 ⟨n,cd,by unfold PySem.W.clsIn;rw[l],h⟩
section
variable{P:Program}{w:World}{K:PySem.W.Frag}{mg:Str->Option Value}{base:Heap}
theorem K9{N:List Str}{x:Str}{sc:Scope}{f:Addr}{cdv:Value}{A:Around}{outer:List Env}{s0:Shared}{H0:Hp}{E:XK} :
  ∀ (pins:List (Addr×Obj)) (σ:St) (H:Hp) (s:Shared) (e:Addr) (C:Value) (d:Option Addr),Inv (cxX P w K mg base N x sc f cdv A outer s0 H0 E) pins σ H s->Fly (cxX P w K mg base N x sc f cdv A outer s0 H0 E) pins H s.heap e C d->E C d H ->
   (cxX P w K mg base N x sc f cdv A outer s0 H0 E).xe (.ref e) s:=
 λpins σ H s e C d I fl h=>⟨pins,σ,e,C,d,H,rfl,I.jc,⟨⟨fl.own.sz,fl.own.loc,fl.own.cl,fl.own.pn⟩,fl.nh,let⟨oe,vs,a1,a2,a3,a4,a5,a6,a7⟩:=fl.ob;⟨oe,vs,a1,a2,a3,a4,a5,a6,a7.imp id λ⟨T,oT,ts,b1,b2,b3,b4⟩=>⟨T,oT,ts,b1,b2,⟨b3.sz,b3.loc,b3.cl,b3.pn⟩,b4⟩⟩⟩,h⟩
end
structure R6(K:PySem.W.Frag)(mg:Str->Option Value)(c:Str)(fs:List Str)(C:Addr):Prop where
 ex:∃ f cd fd ps,XMk K C f cd/\Binds K fd ps []/\∀ (P:Program) (w:World) (base:Heap),pJ P w K mg base CX0 1 f fd ps (spI C fs)
 nm:XNm K C c
 xi:XI K C
 mg:mg c=some (.ref C)
 fl:∀ f∈fs,PySem.W.findIn K (.ref C) f=some none
section
variable{X:Cx}{c:Str}{fs:List Str}{C:Addr}{p pos rpos:Pos}{e:Expr}{es:List Expr}{t:TA}{E:XK}{k:Nat}
theorem La(U:R6 X.K X.mg c fs C)(hr:dw (k+2) X.A)(hg:Gl X c)
  (hx:∀ (pins:List (Addr×Obj)) (σ:St) (H:Hp) (s:Shared) (e:Addr) (C:Value) (d:Option Addr),Inv X pins σ H s->Fly X pins H s.heap e C d->E C d H->X.xe (.ref e) s)
  (ha:PA X (e::es) t)(hdb:(c==("__debug__":Str))=false:=by decide)(he:starEach (e::es) X.env=(false,eval e X.env)::starEach es X.env:=by rfl)(hpl:(backTo pos (starEach es X.env)).any (·.1)=false:=by rfl) :
  PS X (.Raise (some (.Call (.Name c p) (e::es) [] pos)) none rpos) (uU C (spI C fs) E t):=by
 obtain⟨f,cd,fd,ps,Y,hb,F⟩:=U.ex;exact K4 Y (F _ _ _) (hr.mono (by omega)) hg U.mg hb hr.hd hx ha hdb he hpl
theorem Lb{K:PySem.W.Frag}{mg:Str->Option Value}{C:Addr}{Cg':Cg}{f:Fn (List PV)}(hX:Cg'.XR=XRS K)(U:R6 K mg c fs C)(hz:fs.length<=1000)(h:MA K Cg' t f):MS K Cg' (uU C (spI C fs) Cg'.E t) (wJ c fs f):=
 O1 hX U.nm (by rw[sizeLine_eq];omega) h
theorem rK(K:PySem.W.Frag){f:Str}{te:TE}(hK:X.K=K)(he:PE X e te)(hb:attributeBase e f X.env (eval e X.env)=eval e X.env):PE X (.Attribute e f pos) (O4 K te f):=hK▸R5 he hb
end
open PySem PySem.Spec PyProof PyProof.Rows
section
variable{K:PySem.W.Frag}{C:Cg}{te:TE}{ta:TA}
theorem O5{fe:Fn (List PV)}{m:List PV->Option (Res PV)}(h:MA K C ta fe):MD K C (lX (spD K XR0 m) [] E0 ta) (bJ m fe):=by
 intro F H σ ρ Q r R e P;refine h.run R e P λl xs F1 H1 hk u a=>?_;refine⟨l,F1,r,u.fh,by rw[ZaJ];exact a,hk,?_⟩
 cases r with
 |ok p=>exact λv F' H' S u' d n=>P v F' H' S (u.trans u') d λb q=>⟨u.hh.free (n b q).1,(n b q).2⟩
 |ex z=>exact λe d F' H' u' x=>x.elim
def HJ(f:Fn PV):Fn PV:=λρ=>match f ρ with
 |some (.ok p)=>some (.ok p)
 |_=>none
theorem RE.Yi{io:Addr->Prop}{nw:Prop}{H0 F0:Hp}{E E':XK}{F H:Hp}{σ:St}{ρ:Rho}(R:RE K ⟨io,nw,H0,F0,E⟩ F H σ ρ):RE K ⟨io,nw,H0,F0,E'⟩ F H σ ρ where
 rb:=⟨R.rb.sub,R.rb.keep,R.rb.new,R.rb.ios⟩
 len:=R.len
 sh:=R.sh
 ow:=R.ow
 dis:=R.dis
 dd:=by
  obtain⟨P,d⟩:=R.dd;exact⟨P,{ d with }⟩
theorem O6{E:XK}{io:Addr->Prop}{H0 F0:Hp}{fe:Fn PV}(h:MO K (C0 io H0 F0) te fe):MO K (CE K E io H0 F0) te (HJ fe):=by
 intro F H σ ρ Q r R e P;unfold HJ at e;split at e
 ·rename_i p hp;cases e;exact h F H σ ρ Q _ R.Yi hp P
 ·cases e
end
end L2.MP
namespace MM
open PySem PySem.Spec PyProof.Rows L2 L2.MP
def Tv{α:Type}(x:Option (Res α))(Q:α->Prop):Prop:=∃ a,x=some (.ok a)/\Q a
def Out.calm:Out->Prop
 |.ex _=>False
 |_=>True
def To(x:Option Out)(Q:Out->Prop):Prop:=∃ o,x=some o/\Out.calm o/\Q o
def Eu(k:Rho->Prop)(Q:Out->Prop):Out->Prop
 |.nx ρ=>k ρ
 |o=>Q o
section
variable{α β γ:Type}{Q:α->Prop}{QS:Out->Prop}{k:β->Prop}{f:Fn PV}{g h:Fn PV}{ρ:Rho}{a:β}{z p:PV}{i:Nat}{s t:Sn}
theorem onNx_nx{k:Rho->Prop}:Eu k QS (.nx ρ)=k ρ:=rfl
theorem onNx_rt{k:Rho->Prop}:Eu k QS (.rt p)=QS (.rt p):=rfl
theorem onNx_ro{k:Rho->Prop}:Eu k QS (.ro p)=QS (.ro p):=rfl
theorem onNx_rd{k:Rho->Prop}:Eu k QS (.rd p)=QS (.rd p):=rfl
theorem onNx_bk{k:Rho->Prop}:Eu k QS (.bk ρ)=QS (.bk ρ):=rfl
theorem onNx_ct{k:Rho->Prop}:Eu k QS (.ct ρ)=QS (.ct ρ):=rfl
theorem tv_some{a:α}:Tv (some (.ok a)) Q=Q a:=by
 refine propext ⟨?_,λq=>⟨a,rfl,q⟩⟩;rintro⟨r',e,q⟩;cases e;exact q
theorem to_nx:To (some (.nx ρ)) QS=QS (.nx ρ):=propext ⟨λ⟨_,e,_,q⟩=>by cases e;exact q,λq=>⟨_,rfl,trivial,q⟩⟩
theorem to_rt:To (some (.rt p)) QS=QS (.rt p):=propext ⟨λ⟨_,e,_,q⟩=>by cases e;exact q,λq=>⟨_,rfl,trivial,q⟩⟩
theorem to_ro:To (some (.ro p)) QS=QS (.ro p):=propext ⟨λ⟨_,e,_,q⟩=>by cases e;exact q,λq=>⟨_,rfl,trivial,q⟩⟩
theorem to_rd:To (some (.rd p)) QS=QS (.rd p):=propext ⟨λ⟨_,e,_,q⟩=>by cases e;exact q,λq=>⟨_,rfl,trivial,q⟩⟩
theorem to_bk:To (some (.bk ρ)) QS=QS (.bk ρ):=propext ⟨λ⟨_,e,_,q⟩=>by cases e;exact q,λq=>⟨_,rfl,trivial,q⟩⟩
theorem to_ct:To (some (.ct ρ)) QS=QS (.ct ρ):=propext ⟨λ⟨_,e,_,q⟩=>by cases e;exact q,λq=>⟨_,rfl,trivial,q⟩⟩
theorem tv_bnd{x:Option (Res β)}{kk:β->Option (Res α)}:Tv (bnd x kk) Q=Tv x (λb=>Tv (kk b) Q):=by
 refine propext ⟨?_,?_⟩
 ·rintro⟨r,e,q⟩;rcases bK e with⟨z,e1,e2⟩|⟨b,e1,e2⟩
  ·cases e2
  ·exact⟨_,e1,r,e2,q⟩
 ·rintro⟨b,e,q⟩;subst e;exact q
theorem to_bnd{x:Option (Res β)}{kk:β->Option Out}:To (fP x kk) QS=Tv x (λb=>To (kk b) QS):=by
 refine propext ⟨?_,?_⟩
 ·rintro⟨r,e,c,q⟩;rcases b7 e with⟨z,e1,rfl⟩|⟨b,e1,e2⟩
  ·exact c.elim
  ·exact⟨_,e1,r,e2,c,q⟩
 ·rintro⟨b,e,q⟩;subst e;exact q
theorem to_seq:To (bf s t ρ) QS=To (s ρ) (Eu (λρ'=>To (t ρ') QS) QS):=by
 refine propext ⟨?_,?_⟩
 ·rintro⟨r,e,c,q⟩;unfold bf at e;split at e
  ·rename_i ρ' h;exact⟨_,h,trivial,r,e,c,q⟩
  ·rename_i x hx;refine⟨r,e,c,?_⟩;cases r with
   |nx ρ'=>exact absurd e (hx ρ')
   |_=>exact q
 ·rintro⟨o,e,c,q⟩;unfold bf To;rw[e];cases o with
  |nx ρ'=>exact q
  |_=>exact⟨_,rfl,c,q⟩
theorem oE:Tv (none:Option (Res α)) Q=False:=propext ⟨λ⟨_,e,_⟩=>(nomatch e),λh=>h.elim⟩
theorem Ju:To none QS=False:=propext ⟨λ⟨_,e,_⟩=>(nomatch e),λh=>h.elim⟩
theorem tv_m2{op:β->γ->Option (Res α)}{f:Fn β}{g:Fn γ}:Tv (m2 op f g ρ) Q=Tv (f ρ) (λa=>Tv (g ρ) (λb=>Tv (op a b) Q)):=by
 unfold m2;simp only[tv_bnd]
theorem tv_m1{op:β->Option (Res α)}{f:Fn β}:Tv (m1 op f ρ) Q=Tv (f ρ) (λa=>Tv (op a) Q):=by unfold m1;rw[tv_bnd]
theorem tv_var{Q:PV->Prop}:Tv (mV i ρ) Q=∃ p,ρ[i]?=some (some (.sh p))/\Q p:=by
 refine propext ⟨?_,λ⟨p,e,q⟩=>⟨_,by unfold mV;rw[e],q⟩⟩
 rintro⟨r,e,q⟩;unfold mV at e;split at e
 ·rename_i p hp;cases e;exact⟨_,hp,q⟩
 ·cases e
theorem tv_lend{Q:PV->Prop}:Tv (mVL i ρ) Q=∃ s,ρ[i]?=some (some s)/\(match s with|.sh p=>Q p|.ow p=>Q p|.dp _=>False):=by
 refine propext ⟨?_,?_⟩
 ·rintro⟨r,e,q⟩;unfold mVL at e;split at e
  ·rename_i p hp;cases e;exact⟨_,hp,q⟩
  ·rename_i p hp;cases e;exact⟨_,hp,q⟩
  ·cases e
 ·rintro⟨s,e,q⟩;cases s with
  |sh p=>exact⟨_,by unfold mVL;rw[e],q⟩
  |ow p=>exact⟨_,by unfold mVL;rw[e],q⟩
  |dp p=>exact q.elim
theorem tv_c{Q:PV->Prop}:Tv (mC p ρ) Q=Q p:=tv_some
theorem tv_view{Q:List PV->Prop}:Tv (qP f ρ) Q=Tv (f ρ) (λa=>Tv (t8 a) Q):=tv_bnd
theorem tv_viewN{Q:List PV->Prop}:Tv (vN i ρ) Q=Tv (mVL i ρ) (λa=>Tv (t8 a) Q):=tv_bnd
theorem tv_asLst{l:List PV}{Q:List PV->Prop}:Tv (t8 (.lst l)) Q=Q l:=tv_some
theorem tv_nil{Q:List PV->Prop}:Tv (bC ρ) Q=Q []:=tv_some
theorem tv_cons{g:Fn (List PV)}{Q:List PV->Prop}:Tv (aA f g ρ) Q=Tv (f ρ) (λa=>Tv (g ρ) (λl=>Q (a::l))):=by
 unfold aA;simp only[tv_bnd,tv_some]
theorem b8{c:Prop}[Decidable c]{a:α}:Tv (if c then some (.ok a) else none) Q=(c/\Q a):=by
 by_cases h:c
 ·rw[Zag h,tv_some];simp[h]
 ·rw[Zae h,oE];simp[h]
theorem tv_tup{f:Fn (List PV)}{Q:PV->Prop}:Tv (oJ f ρ) Q=Tv (f ρ) (λl=>l.length<=sizeLine/\Q (.tup l)):=by
 unfold oJ;simp only[tv_bnd,b8]
theorem tv_lst{f:Fn (List PV)}{Q:PV->Prop}:Tv (GR f ρ) Q=Tv (f ρ) (λl=>l.length<=sizeLine/\Q (.lst l)):=by
 unfold GR;simp only[tv_bnd,b8]
theorem tv_call{m:List PV->Option (Res PV)}{f:Fn (List PV)}{Q:PV->Prop}:Tv (bJ m f ρ) Q=Tv (f ρ) (λl=>Tv (m l) Q):=tv_bnd
theorem tv_ite{c:Prop}[Decidable c]{x y:Option (Res α)}:Tv (if c then x else y) Q=if c then Tv x Q else Tv y Q:=by split<;>rfl
theorem to_ite{c:Prop}[Decidable c]{x y:Option Out}:To (if c then x else y) QS=if c then To x QS else To y QS:=by split<;>rfl
theorem tv_mIf{c:Fn Bool}{f g:Fn α}:Tv (mIf c f g ρ) Q=Tv (c ρ) (λb=>if b=true then Tv (f ρ) Q else Tv (g ρ) Q):=by
 unfold mIf;simp only[tv_bnd,tv_ite]
theorem tv_mOr{c d:Fn Bool}{Q:Bool->Prop}:Tv (mOr c d ρ) Q=Tv (c ρ) (λb=>if b=true then Q true else Tv (d ρ) Q):=by
 unfold mOr;simp only[tv_bnd,tv_ite,tv_some]
theorem tv_mNot{c:Fn Bool}{Q:Bool->Prop}:Tv (GP c ρ) Q=Tv (c ρ) (λb=>Q (!b)):=by
 unfold GP;simp only[tv_bnd,tv_some]
theorem tv_comp{it:Fn (List PV)}{fr:List (Option Nat)}{tg:PV->Rho->Option Rho}{tst:Fn Bool}{el:Fn PV}{Q:PV->Prop}:Tv (jm it fr tg tst el ρ) Q=Tv (it ρ) (λl=>l.length<=sizeLine/\Tv (dJ tg tst el (frR fr ρ) l) (λr=>Q (.lst r))):=by
 unfold jm;rw[tv_bnd];congr 1;funext l
 by_cases hl:l.length<=sizeLine
 ·rw[Zag hl,tv_bnd];simp only[tv_some,hl,true_and]
 ·rw[Zae hl,oE];simp[hl]
theorem to_next:To (fM ρ) QS=QS (.nx ρ):=to_nx
theorem to_cont:To (M3 ρ) QS=QS (.ct ρ):=to_ct
theorem to_ret:To (fD f ρ) QS=Tv (f ρ) (λp=>QS (.rt p)):=by unfold fD;simp only[to_bnd,to_rt]
theorem to_retO:To (ud f ρ) QS=Tv (f ρ) (λp=>QS (.ro p)):=by unfold ud;simp only[to_bnd,to_ro]
theorem to_drop:To (yL f ρ) QS=Tv (f ρ) (λ_=>QS (.nx ρ)):=by unfold yL;simp only[to_bnd,to_nx]
theorem to_setO:To (uc i f ρ) QS=Tv (f ρ) (λp=>QS (.nx (ρ.set i (some (.ow p))))):=by unfold uc;simp only[to_bnd,to_nx]
theorem to_asg{tg:PV->Rho->Option Rho}:To (cW f tg ρ) QS=Tv (f ρ) (λp=>∃ ρ',tg p ρ=some ρ'/\QS (.nx ρ')):=by
 unfold cW;rw[to_bnd];congr 1;funext a
 cases e:tg a ρ with
 |none=>rw[Ju];exact propext ⟨λh=>h.elim,λ⟨_,z,_⟩=>nomatch z⟩
 |some ρ'=>rw[to_nx];exact propext ⟨λq=>⟨ρ',rfl,q⟩,λ⟨_,z,q⟩=>by cases z;exact q⟩
theorem to_asgN:To (cW f (gN i) ρ) QS=Tv (f ρ) (λp=>QS (.nx (ρ.set i (some (.sh p))))):=by
 rw[to_asg];congr 1;funext a
 exact propext ⟨λ⟨ρ',e,q⟩=>by cases e;exact q,λq=>⟨_,rfl,q⟩⟩
theorem to_if{c:Fn Bool}:To (jh c s t ρ) QS=Tv (c ρ) (λb=>if b=true then To (s ρ) QS else To (t ρ) QS):=by
 unfold jh;simp only[to_bnd,to_ite]
theorem to_for{it:Fn (List PV)}{tg:PV->Rho->Option Rho}:To (pO it tg s ρ) QS=Tv (it ρ) (λl=>To (loop tg s l ρ) QS):=to_bnd
theorem to_retOw:To (pN i ρ) QS=∃ p,ρ[i]?=some (some (.ow p))/\QS (.ro p):=by
 refine propext ⟨?_,λ⟨p,e,q⟩=>⟨.ro p,by unfold pN ownAt;rw[e],trivial,q⟩⟩
 rintro⟨r,e,c,q⟩;unfold pN at e;split at e
 ·rename_i p hp;cases e;exact⟨p,bw hp,q⟩
 ·cases e
theorem to_app:To (Km i f ρ) QS=∃ l,ρ[i]?=some (some (.ow (.lst l)))/\Tv (f ρ) (λp=>l.length<sizeLine/\QS (.nx (ρ.set i (some (.ow (.lst (l++[p]))))))):=by
 refine propext ⟨?_,?_⟩
 ·rintro⟨r,e,c,q⟩;unfold Km at e;split at e
  ·rename_i l hl;refine⟨l,bw hl,?_⟩;rcases b7 e with⟨z,e1,rfl⟩|⟨p,e1,e2⟩
   ·exact c.elim
   ·split at e2
    ·rename_i hlen;cases e2;exact⟨_,e1,hlen,q⟩
    ·cases e2
  ·cases e
 ·rintro⟨l,e,p,e1,h,q⟩;have eo:ownAt i ρ=some (.lst l):=by unfold ownAt;rw[e]
  unfold To Km;rw[eo];exact⟨.nx _,by simp only[e1,fP];exact Zag h,trivial,q⟩
theorem jR{c:Int->Int->Bool}{F:Int->Int->PV}{x y:Int}{Q:PV->Prop}:Tv (MP.opI c F (.int x) (.int y)) Q=(c x y=true/\Q (F x y)):=b8
theorem tv_sub{x y:Int}{Q:PV->Prop}:Tv (ue (.int x) (.int y)) Q=Q (.int (x-y)):=by unfold ue;rw[jR];simp[cT]
theorem tv_and'{x y:Int}{Q:PV->Prop}:Tv (qM (.int x) (.int y)) Q=Q (.int (Builtin.bitAnd x y)):=by unfold qM;rw[jR];simp[cT]
theorem tv_or'{x y:Int}{Q:PV->Prop}:Tv (Q0 (.int x) (.int y)) Q=Q (.int (Builtin.bitOr x y)):=by unfold Q0;rw[jR];simp[cT]
theorem tv_gt{x y:Int}{Q:PV->Prop}:Tv (Ks (.int x) (.int y)) Q=Q (.bl (decide (y<x))):=by unfold Ks;rw[jR];simp[cT]
theorem tv_ge{x y:Int}{Q:PV->Prop}:Tv (Q3 (.int x) (.int y)) Q=Q (.bl (decide (y<=x))):=by unfold Q3;rw[jR];simp[cT]
theorem tv_div{x y:Int}{Q:PV->Prop}:Tv (vH (.int x) (.int y)) Q=((0<y/\y<1073741824)/\Q (.int (x/y))):=by unfold vH;rw[jR];simp[U8]
theorem tv_mod{x y:Int}{Q:PV->Prop}:Tv (gA (.int x) (.int y)) Q=(0<y/\Q (.int (x%y))):=by unfold gA;rw[jR];simp[WL]
theorem tv_pow{x y:Int}{Q:PV->Prop}:Tv (Io (.int x) (.int y)) Q=((0<=y/\y<=1000000/\x.natAbs<2^64)/\Q (.int (x^y.toNat))):=by unfold Io;rw[jR];simp[Nb]
theorem tv_shl{x y:Int}{Q:PV->Prop}:Tv (yN (.int x) (.int y)) Q=((0<=y/\y<=1000000/\x.natAbs<2^64)/\Q (.int (x*2^y.toNat))):=by unfold yN;rw[jR];simp[Nb]
theorem tv_shr{x y:Int}{Q:PV->Prop}:Tv (yO (.int x) (.int y)) Q=(0<=y/\Q (.int (x/2^y.toNat))):=by unfold yO;rw[jR];simp[WM]
theorem tv_add{x y:Int}{Q:PV->Prop}:Tv (dz (.int x) (.int y)) Q=Q (.int (x+y)):=tv_some
theorem tv_addS{x y:Str}{Q:PV->Prop}:Tv (dz (.str x) (.str y)) Q=(x.length+y.length<=sizeLine/\Q (.str (x++y))):=b8
theorem tv_addT{x y:List PV}{Q:PV->Prop}:Tv (dz (.tup x) (.tup y)) Q=((x≠[]/\x.length+y.length<=sizeLine)/\Q (.tup (x++y))):=b8
theorem tv_mul{x y:Int}{Q:PV->Prop}:Tv (fO (.int x) (.int y)) Q=(Gp x y/\Q (.int (x*y))):=by
 show Tv (if M9 x y=true then _ else none) Q=_
 rw[b8];unfold M9 Gp;simp
theorem tv_mulS{z:Str}{n:Int}{Q:PV->Prop}:Tv (fO (.str z) (.int n)) Q=((-(2^63)<=n/\n<2^63/\z.length*n.toNat<=sizeLine)/\Q (.str (U9 z n.toNat))):=b8
theorem tv_lt{x y:Int}{Q:PV->Prop}:Tv (Ku (.int x) (.int y)) Q=Q (.bl (decide (x<y))):=tv_some
theorem tv_ltS{x y:Str}{Q:PV->Prop}:Tv (Ku (.str x) (.str y)) Q=Q (.bl (decide (x.cps.toList<y.cps.toList))):=tv_some
theorem tv_eq{p q:PV}{Q:PV->Prop}:Tv (oK p q) Q=∃ r,eqF 32 p q=some r/\Q (.bl r):=by
 refine propext ⟨?_,λ⟨r,e,k⟩=>⟨_,by unfold oK;rw[e],k⟩⟩
 rintro⟨r,e,k⟩;unfold oK at e;split at e
 ·rename_i b hb;cases e;exact⟨b,hb,k⟩
 ·cases e
theorem eqF_int(n:Nat)(i j:Int):eqF n (.int i) (.int j)=some (decide (i=j)):=by cases n<;>rfl
theorem eqF_str(n:Nat)(i j:Str):eqF n (.str i) (.str j)=some (decide (i=j)):=by cases n<;>rfl
theorem eqF_bl(n:Nat)(i j:Bool):eqF n (.bl i) (.bl j)=some (decide (i=j)):=by cases n<;>rfl
theorem tv_eqI{x y:Int}{Q:PV->Prop}:Tv (oK (.int x) (.int y)) Q=Q (.bl (decide (x=y))):=by rw[tv_eq,eqF_int];simp
theorem tv_eqS{x y:Str}{Q:PV->Prop}:Tv (oK (.str x) (.str y)) Q=Q (.bl (decide (x=y))):=by rw[tv_eq,eqF_str];simp
theorem tv_notin{p q:PV}{Q:PV->Prop}:Tv (nQ p q) Q=∃ r,inU p q=some r/\Q (.bl (!r)):=by
 refine propext ⟨?_,λ⟨r,e,k⟩=>⟨_,by unfold nQ;rw[e],k⟩⟩
 rintro⟨r,e,k⟩;unfold nQ at e;split at e
 ·rename_i b hb;cases e;exact⟨b,hb,k⟩
 ·cases e
theorem tv_isN{p:PV}{Q:PV->Prop}:Tv (Ip p .non) Q=Q (.bl p.jj):=tv_some
theorem tv_notN{p:PV}{Q:PV->Prop}:Tv (vI p .non) Q=Q (.bl (!p.jj)):=tv_some
theorem Bm{x:Option PV}{Q:PV->Prop}:Tv (ofO x) Q=∃ p,x=some p/\Q p:=by
 refine propext ⟨?_,λ⟨p,e,k⟩=>⟨_,by subst e;rfl,k⟩⟩
 rintro⟨r,e,k⟩;obtain⟨p,e1,e2⟩:=qN e;cases e2;exact⟨_,e1,k⟩
theorem tv_ixL{l:List PV}{n:Int}{Q:PV->Prop}:Tv (cY (.lst l) (.int n)) Q=∃ p,atI l n=some p/\Q p:=Bm
theorem tv_ixT{l:List PV}{n:Int}{Q:PV->Prop}:Tv (cY (.tup l) (.int n)) Q=∃ p,atI l n=some p/\Q p:=Bm
theorem tv_ixV{l:List PV}{n:Int}{Q:PV->Prop}:Tv (Nf l (.int n)) Q=∃ p,atI l n=some p/\Q p:=Bm
theorem tv_ixS{z:Str}{n:Int}{Q:PV->Prop}:Tv (cY (.str z) (.int n)) Q=(z.length<=sizeLine/\∃ c,atI z.cps.toList n=some c/\Q (.str ⟨#[c]⟩)):=by
 show Tv (if z.length<=sizeLine then _ else none) Q=_
 by_cases hz:z.length<=sizeLine
 ·rw[Zag hz,Bm];simp only[hz,true_and];refine propext ⟨?_,λ⟨c,e,k⟩=>⟨_,by rw[e];rfl,k⟩⟩
  rintro⟨p,e,k⟩;cases e1:atI z.cps.toList n with
  |none=>rw[e1] at e;cases e
  |some c=>rw[e1] at e;cases e;exact⟨c,rfl,k⟩
 ·rw[Zae hz];exact propext ⟨λ⟨r,e,q⟩=>(nomatch e),λ⟨z,_⟩=>absurd z hz⟩
theorem tv_lenS{z:Str}{Q:PV->Prop}:Tv (oO (.str z)) Q=(z.length<=sizeLine/\Q (.int z.length)):=b8
theorem tv_lenL{l:List PV}{Q:PV->Prop}:Tv (oO (.lst l)) Q=Q (.int l.length):=tv_some
theorem tv_lenT{l:List PV}{Q:PV->Prop}:Tv (oO (.tup l)) Q=Q (.int l.length):=tv_some
theorem tv_is{T:String}{Q:PV->Prop}:Tv (Kv p (.ty T)) Q=∃ b,isI p T=some b/\Q (.bl b):=by
 refine propext ⟨?_,λ⟨r,e,k⟩=>⟨_,by unfold Kv;simp only[e],k⟩⟩
 rintro⟨r,e,k⟩;unfold Kv at e;simp only at e;split at e
 ·rename_i b hb;cases e;exact⟨b,hb,k⟩
 ·cases e
theorem tv_asBl{b:Bool}{Q:Bool->Prop}:Tv (dU (.bl b)) Q=Q b:=tv_some
theorem tv_max{x y:Int}{Q:PV->Prop}:Tv (Nm (.int x) (.int y)) Q=Q (.int (if y>x then y else x)):=tv_some
theorem tv_min{x y:Int}{Q:PV->Prop}:Tv (Np (.int x) (.int y)) Q=Q (.int (if y<x then y else x)):=tv_some
theorem tv_list{l:List PV}{Q:PV->Prop}:Tv (Hc l) Q=Q (.lst l):=tv_some
theorem tv_cat{l m:List PV}{Q:PV->Prop}:Tv (yQ l m) Q=(l.length+m.length<=sizeLine/\Q (.lst (l++m))):=b8
theorem tv_asSeqL{l:List PV}{Q:List PV->Prop}:Tv (mU (.lst l)) Q=Q l:=tv_some
theorem tv_asSeqT{l:List PV}{Q:List PV->Prop}:Tv (mU (.tup l)) Q=Q l:=tv_some
theorem tv_asSeqS{z:Str}{Q:List PV->Prop}:Tv (mU (.str z)) Q=Q (signs z):=tv_some
theorem tv_rng1{j:Int}{Q:List PV->Prop}:Tv (pP [.int j]) Q=((-(2^62)<=j/\j<2^62)/\Q (mW 0 j.toNat)):=b8
theorem tv_rng2{x y:Int}{Q:List PV->Prop}:Tv (vK [.int x,.int y]) Q=((-(2^62)<=x/\x<2^62/\-(2^62)<=y/\y<2^62)/\Q (mW x (y-x).toNat)):=b8
theorem tv_enum{l:List PV}{Q:List PV->Prop}:Tv (Hb [.lst l]) Q=Q (uf l):=tv_some
theorem tv_pn{Q:Option Int->Prop}:Tv (mPn ρ) Q=Q none:=tv_some
theorem tv_asInt{x:Int}{Q:Option Int->Prop}:Tv (asInt (.int x)) Q=Q (some x):=tv_some
theorem tv_slL{f:Fn (List PV)}{lo hi:Fn (Option Int)}{Q:PV->Prop}:Tv (Q7 f lo hi ρ) Q=Tv (f ρ) (λl=>Tv (lo ρ) (λa=>Tv (hi ρ) (λb=>Q (.lst (Ha l a b))))):=by
 unfold Q7;simp only[tv_bnd,tv_some]
end
section
variable{ρ:Rho}{j:Nat}
theorem finIO_nx{p:PV}:(W3 j (some (.nx ρ))=some (.ok p))=(ρ[j]?=some (some (.ow p))):=by
 show((match ownAt j ρ with|some p=>some (Res.ok p)|none=>none)=some (.ok p))=_
 cases h:ownAt j ρ with
 |none=>exact propext ⟨λe=>(nomatch e),λe=>by unfold ownAt at h;rw[e] at h;cases h⟩
 |some q=>exact propext ⟨λe=>by cases e;exact bw h,λe=>by rw[bw h] at e;cases e;rfl⟩
end
def turn(I:Rho->Prop)(QS:Out->Prop):Out->Prop
 |.nx ρ=>I ρ
 |.ct ρ=>I ρ
 |.bk ρ=>QS (.nx ρ)
 |o=>QS o
theorem turn_nx{I:Rho->Prop}{QS:Out->Prop}{ρ:Rho}:turn I QS (.nx ρ)=I ρ:=rfl
theorem turn_ct{I:Rho->Prop}{QS:Out->Prop}{ρ:Rho}:turn I QS (.ct ρ)=I ρ:=rfl
theorem turn_bk{I:Rho->Prop}{QS:Out->Prop}{ρ:Rho}:turn I QS (.bk ρ)=QS (.nx ρ):=rfl
theorem turn_rt{I:Rho->Prop}{QS:Out->Prop}{p:PV}:turn I QS (.rt p)=QS (.rt p):=rfl
theorem turn_ro{I:Rho->Prop}{QS:Out->Prop}{p:PV}:turn I QS (.ro p)=QS (.ro p):=rfl
theorem turn_rd{I:Rho->Prop}{QS:Out->Prop}{p:PV}:turn I QS (.rd p)=QS (.rd p):=rfl
theorem R7{tg:PV->Rho->Option Rho}{body:Sn}{QS:Out->Prop}(I:Nat->Rho->Prop):∀ {l:List PV}{ρ:Rho},I 0 ρ ->
  (∀ (i:Nat) x ρ,l[i]?=some x->I i ρ->∃ ρ1,tg x ρ=some ρ1/\To (body ρ1) (turn (I (i+1)) QS)) ->
  (∀ ρ',I l.length ρ'->QS (.nx ρ'))->To (loop tg body l ρ) QS:=by
 intro l;induction l generalizing I with
 |nil=>exact λh0 _ hd=>⟨_,rfl,trivial,hd _ h0⟩
 |cons x xs ih=>
  intro ρ h0 hs hd;obtain⟨ρ1,e1,o,e2,c,q⟩:=hs 0 x ρ rfl h0;unfold To;rw[loop,e1];simp only[e2];cases o with
  |nx ρ2=>exact ih (λi=>I (i+1)) q (λi y ρ e=>hs (i+1) y ρ (by simpa using e)) hd
  |ct ρ2=>exact ih (λi=>I (i+1)) q (λi y ρ e=>hs (i+1) y ρ (by simpa using e)) hd
  |bk ρ2=>exact⟨_,rfl,trivial,q⟩
  |rt p=>exact⟨_,rfl,trivial,q⟩
  |ro p=>exact⟨_,rfl,trivial,q⟩
  |rd p=>exact⟨_,rfl,trivial,q⟩
  |ex z=>exact c.elim
theorem Ew{x:Option Out}{I:Rho->Prop}{Q:Out->Prop}(h:∀ QS:Out->Prop,(∀ ρ,I ρ->QS (.nx ρ))->To x QS):To x (turn I Q):=h _ λ_ h=>h
theorem Ub{x:Option Out}{I:Rho->Prop}{Q:Out->Prop}(h:∀ QS:Out->Prop,(∀ ρ,I ρ->QS (.nx ρ))->(∀ ρ,I ρ->QS (.ct ρ))->(∀ p,Q (.rt p)->QS (.rt p))->(∀ p,Q (.ro p)->QS (.ro p))->(∀ p,Q (.rd p)->QS (.rd p))->To x QS):To x (turn I Q):=h _ (λ_ h=>h) (λ_ h=>h) (λ_ h=>h) (λ_ h=>h) λ_ h=>h
theorem um{x:Option Out}{Q:Out->Prop}(h:∀ QS:Out->Prop,(∀ o,Q o->QS o)->To x QS):To x Q:=h _ λ_ h=>h
theorem dF{j:Nat}{body:Sn}{QS:Out->Prop}(I:Nat->Rho->Prop){l:List PV}{ρ:Rho}(h0:I 0 ρ)
  (hs:∀ (i:Nat) x ρ,l[i]?=some x->I i ρ->To (body (ρ.set j (some (.sh x)))) (turn (I (i+1)) QS))(hd:∀ ρ',I l.length ρ'->QS (.nx ρ')):To (loop (gN j) body l ρ) QS:=
 R7 I h0 (λi x ρ e hI=>⟨_,rfl,hs i x ρ e hI⟩) hd
theorem wM{fc:Fn Bool}{body:Sn}{QS:Out->Prop}(I:Nat->Rho->Prop):∀ {n:Nat}{ρ:Rho},I n ρ ->
  (∀ (n:Nat) ρ,I n ρ->Tv (fc ρ) (λb=>if b=true then 0<n/\To (body ρ) (turn (I (n-1)) QS) else QS (.nx ρ)))->To (j5 fc body (n+1) ρ) QS:=by
 intro n;induction n with
 |zero=>
  intro ρ h0 hs;rw[j5,to_bnd];obtain⟨b,e,q⟩:=hs 0 ρ h0;refine⟨b,e,?_⟩;cases b with
  |true=>exact absurd q.1 (Zbp _)
  |false=>exact⟨_,rfl,trivial,q⟩
 |succ n ih=>
  intro ρ h0 hs;rw[j5,to_bnd];obtain⟨b,e,q⟩:=hs (n+1) ρ h0;refine⟨b,e,?_⟩;cases b with
  |false=>exact⟨_,rfl,trivial,q⟩
  |true=>
   obtain⟨_,o,e2,c,q2⟩:=q;show To (if true=true then _ else _) QS
   rw[Zag rfl];simp only[e2];cases o with
   |nx ρ2=>exact ih q2 hs
   |ct ρ2=>exact ih q2 hs
   |bk ρ2=>exact⟨_,rfl,trivial,q2⟩
   |rt p=>exact⟨_,rfl,trivial,q2⟩
   |ro p=>exact⟨_,rfl,trivial,q2⟩
   |rd p=>exact⟨_,rfl,trivial,q2⟩
   |ex z=>exact c.elim
theorem jo{x:Option Out}{r:Res PV}(h:To x λo=>fin (some o)=some r):fin x=some r:=by
 obtain⟨o,e,_,q⟩:=h;rw[e];exact q
theorem uW{x:Option Out}{r:Res PV}(h:To x λo=>uw (some o)=some r):uw x=some r:=by
 obtain⟨o,e,_,q⟩:=h;rw[e];exact q
theorem Bo{x:Option Out}{P:PV->Prop}(h:To x λo=>∃ p,fin (some o)=some (.ok p)/\P p):∃ p,fin x=some (.ok p)/\P p:=by
 obtain⟨o,e,_,q⟩:=h;rw[e];exact q
theorem Jv{x:Option Out}{P:PV->Prop}(h:To x λo=>∃ p,uw (some o)=some (.ok p)/\P p):∃ p,uw x=some (.ok p)/\P p:=by
 obtain⟨o,e,_,q⟩:=h;rw[e];exact q
theorem fin_nx{ρ:Rho}:fin (some (.nx ρ))=some (.ok .non):=rfl
theorem fin_rt{p:PV}:fin (some (.rt p))=some (.ok p):=rfl
theorem finO_ro{p:PV}:uw (some (.ro p))=some (.ok p):=rfl
theorem wN{tg:PV->Rho->Option Rho}{tst:Fn Bool}{el:Fn PV}{ρb:Rho}(t:PV->Bool)(f:PV->PV):∀ (l:List PV),
  (∀ x∈l,∃ ρ1,tg x ρb=some ρ1/\tst ρ1=some (.ok (t x))/\(t x=true->el ρ1=some (.ok (f x))))->dJ tg tst el ρb l=some (.ok ((l.filter t).map f))
 |[],_=>rfl
 |x::xs,h=>by
  obtain⟨ρ1,e1,e2,e3⟩:=h x List.mem_cons_self;have ih:=wN t f xs λy hy=>h y (List.mem_cons_of_mem _ hy);rw[dJ,e1];simp only[e2,bnd];cases ht:t x with
  |true=>rw[Zag rfl,e3 ht];simp only[ih,ZbT,ht,ZbI,Zan]
  |false=>rw[Zae (by decide)];simp only[ih,ZbT,ht,Zbg,Zbh]
theorem Ld{tg:PV->Rho->Option Rho}{el:Fn PV}{ρb:Rho}(f:PV->PV)(l:List PV)(h:∀ x∈l,∃ ρ1,tg x ρb=some ρ1/\el ρ1=some (.ok (f x))):dJ tg uv el ρb l=some (.ok (l.map f)):=by
 have:=wN (tg:=tg) (tst:=uv) (el:=el) (ρb:=ρb) (λ_=>true) f l λx hx=>let⟨ρ1,a,b⟩:=h x hx;⟨ρ1,a,rfl,λ_=>b⟩
 rwa [ZbQ.mpr λ_ _=>rfl] at this
theorem tv_compN{tg:PV->Rho->Option Rho}{tst:Fn Bool}{el:Fn PV}{ρb:Rho}{Q:List PV->Prop}:Tv (dJ tg tst el ρb []) Q=Q []:=tv_some
theorem tv_compC{j:Nat}{tst:Fn Bool}{el:Fn PV}{ρb:Rho}{x:PV}{xs:List PV}{Q:List PV->Prop}:Tv (dJ (gN j) tst el ρb (x::xs)) Q =
  Tv (tst (ρb.set j (some (.sh x)))) (λb=>if b=true then Tv (el (ρb.set j (some (.sh x)))) (λp=>Tv (dJ (gN j) tst el ρb xs) (λr=>Q (p::r))) else Tv (dJ (gN j) tst el ρb xs) Q):=by
 rw[dJ];simp only[gN,tv_bnd,tv_ite,tv_some]
theorem tv_yes{ρ:Rho}{Q:Bool->Prop}:Tv (uv ρ) Q=Q true:=tv_some
theorem jE{α:Type}{x:Option (Res α)}{q:α}(h:Tv x λp=>p=q):x=some (.ok q):=by
 obtain⟨p,e,rfl⟩:=h;exact e
theorem Xo{j:Nat}{el:Fn PV}{ρb:Rho}{l:List PV}(f:PV->PV)(h:∀ x∈l,Tv (el (ρb.set j (some (.sh x)))) λp=>p=f x):dJ (gN j) uv el ρb l=some (.ok (l.map f)):=
 Ld f l λx hx=>⟨_,rfl,jE (h x hx)⟩
theorem Xp{j:Nat}{tst:Fn Bool}{el:Fn PV}{ρb:Rho}{l:List PV}(t:PV->Bool)(f:PV->PV)(h:∀ x∈l,Tv (tst (ρb.set j (some (.sh x)))) λb=>b=t x)(h2:∀ x∈l,t x=true->Tv (el (ρb.set j (some (.sh x)))) λp=>p=f x) :
  dJ (gN j) tst el ρb l=some (.ok ((l.filter t).map f)):=
 wN t f l λx hx=>⟨_,rfl,jE (h x hx),λht=>jE (h2 x hx ht)⟩
def szP(w h:Int):PV:=.tup [.int w,.int h]
def cellP(c:Int×Int):PV:=.tup [.int c.1,.int c.2]
theorem snocI(l:List Int)(a:Int):l.map PV.int++[PV.int a]=(l++[a]).map PV.int:=by rw[Zbc];rfl
theorem snocS(l:List Str)(a:Str):l.map PV.str++[PV.str a]=(l++[a]).map PV.str:=by rw[Zbc];rfl
theorem snocC(l:List (Int×Int))(a b:Int):l.map cellP++[PV.tup [.int a,.int b]]=(l++[(a,b)]).map cellP:=by rw[Zbc];rfl
theorem is_non_int:isI .non "int"=some false:=rfl
theorem is_non_bool:isI .non "bool"=some false:=rfl
theorem is_non_str:isI .non "str"=some false:=rfl
theorem is_non_list:isI .non "list"=some false:=rfl
theorem is_non_tuple:isI .non "tuple"=some false:=rfl
theorem is_non_dict:isI .non "dict"=some false:=rfl
theorem is_bl_int{b:Bool}:isI (.bl b) "int"=some true:=rfl
theorem is_bl_bool{b:Bool}:isI (.bl b) "bool"=some true:=rfl
theorem is_bl_str{b:Bool}:isI (.bl b) "str"=some false:=rfl
theorem is_bl_list{b:Bool}:isI (.bl b) "list"=some false:=rfl
theorem is_bl_tuple{b:Bool}:isI (.bl b) "tuple"=some false:=rfl
theorem is_bl_dict{b:Bool}:isI (.bl b) "dict"=some false:=rfl
theorem is_int_int{i:Int}:isI (.int i) "int"=some true:=rfl
theorem is_int_bool{i:Int}:isI (.int i) "bool"=some false:=rfl
theorem is_int_str{i:Int}:isI (.int i) "str"=some false:=rfl
theorem is_int_list{i:Int}:isI (.int i) "list"=some false:=rfl
theorem is_int_tuple{i:Int}:isI (.int i) "tuple"=some false:=rfl
theorem is_int_dict{i:Int}:isI (.int i) "dict"=some false:=rfl
theorem is_str_int{z:Str}:isI (.str z) "int"=some false:=rfl
theorem is_str_bool{z:Str}:isI (.str z) "bool"=some false:=rfl
theorem is_str_str{z:Str}:isI (.str z) "str"=some true:=rfl
theorem is_str_list{z:Str}:isI (.str z) "list"=some false:=rfl
theorem is_str_tuple{z:Str}:isI (.str z) "tuple"=some false:=rfl
theorem is_str_dict{z:Str}:isI (.str z) "dict"=some false:=rfl
theorem is_tup_int{l:List PV}:isI (.tup l) "int"=some false:=rfl
theorem is_tup_bool{l:List PV}:isI (.tup l) "bool"=some false:=rfl
theorem is_tup_str{l:List PV}:isI (.tup l) "str"=some false:=rfl
theorem is_tup_list{l:List PV}:isI (.tup l) "list"=some false:=rfl
theorem is_tup_tuple{l:List PV}:isI (.tup l) "tuple"=some true:=rfl
theorem is_tup_dict{l:List PV}:isI (.tup l) "dict"=some false:=rfl
theorem is_lst_int{l:List PV}:isI (.lst l) "int"=some false:=rfl
theorem is_lst_bool{l:List PV}:isI (.lst l) "bool"=some false:=rfl
theorem is_lst_str{l:List PV}:isI (.lst l) "str"=some false:=rfl
theorem is_lst_list{l:List PV}:isI (.lst l) "list"=some true:=rfl
theorem is_lst_tuple{l:List PV}:isI (.lst l) "tuple"=some false:=rfl
theorem is_lst_dict{l:List PV}:isI (.lst l) "dict"=some false:=rfl
theorem Ex{α:Type}{g:α->PV}[DecidableEq α](h:∀ a b,eqF 31 (g a) (g b)=some (decide (a=b)))(a:α):∀ l:List α,inF (g a) (l.map g)=some (decide (a∈l))
 |[]=>rfl
 |x::xs=>by
  rw[Zan,inF,h x a,Ex h a xs];simp only[Zaw,Bool.decide_or];congr 2
  exact decide_eq_decide.mpr ⟨λe=>e.symm,λe=>e.symm⟩
theorem R8{α:Type}{g:α->PV}[DecidableEq α](h:∀ a b,eqF 31 (g a) (g b)=some (decide (a=b)))(a:α)(l:List α)[Decidable (a∈l)]:inF (g a) (l.map g)=some (decide (a∈l)):=by
 rw[Ex h a l];congr 1
 exact decide_eq_decide.mpr Iff.rfl
theorem zr{ns:List Int}{i:Int}(h0:0<=i)(h:i<ns.length):atI (ns.map PV.int) i=some (.int (ns.getD i.toNat 0)):=by
 obtain⟨v,e1,e2⟩:=Mp (xs:=ns.map PV.int) h0 (by rw[List.length_map];exact h)
 rw[e1];rw[List.getElem?_map] at e2;have hl:i.toNat<ns.length:=by lia
 rw[List.getElem?_eq_getElem hl] at e2;rw[List.getD_eq_getElem?_getD,List.getElem?_eq_getElem hl];exact e2.symm
theorem atI_0{p:PV}{l:List PV}:atI (p::l) 0=some p:=nO (j:=0) rfl
theorem atI_1{p q:PV}{l:List PV}:atI (p::q::l) 1=some q:=nO (j:=1) rfl
theorem atI_2{p q r:PV}{l:List PV}:atI (p::q::r::l) 2=some r:=nO (j:=2) rfl
theorem atI_3{p q r s:PV}{l:List PV}:atI (p::q::r::s::l) 3=some s:=nO (j:=3) rfl
theorem is_dk_int{l:List (Key×PV)}:isI (.dk l) "int"=some false:=rfl
theorem is_dk_str{l:List (Key×PV)}:isI (.dk l) "str"=some false:=rfl
theorem tv_neg{i:Int}{Q:PV->Prop}:Tv (Nq (.int i)) Q=Q (.int (-i)):=tv_some
section
variable{ρ:Rho}{f g h:Fn PV}{i:Nat}{Q:PV->Prop}{QS:Out->Prop}{d k p:PV}{l:List PV}
theorem O7:Tv (asD p) Q=(p.isD=true/\Q p):=b8
theorem tv_viewD:Tv (Av f ρ) Q=Tv (f ρ) (λp=>p.isD=true/\Q p):=by unfold Av;rw[tv_bnd];simp only[O7]
theorem tv_viewDN:Tv (eF i ρ) Q=Tv (mVL i ρ) (λp=>p.isD=true/\Q p):=by unfold eF;rw[tv_bnd];simp only[O7]
theorem Bp{α:Type}{o:Option α}{F:α->PV}:Tv (o.map λr=>Res.ok (F r)) Q=∃ r,o=some r/\Q (F r):=by
 cases o with
 |none=>exact propext ⟨(λ⟨_,e,_⟩=>by cases e),(λ⟨_,e,_⟩=>by cases e)⟩
 |some r=>exact propext ⟨λ⟨_,e,q⟩=>by cases e;exact⟨r,rfl,q⟩,λ⟨_,e,q⟩=>by cases e;exact⟨_,rfl,q⟩⟩
theorem tv_dget1:Tv (Aw f g ρ) Q=Tv (f ρ) (λd=>Tv (g ρ) (λk=>∃ r,eV d k=some r/\Q (r.getD .non))):=by
 unfold Aw;simp only[tv_bnd,Bp]
theorem tv_opDGet:Tv (jQ d k) Q=∃ p,eV d k=some (some p)/\Q p:=by
 unfold jQ;split
 ·rename_i p h;rw[h,tv_some];exact propext ⟨λq=>⟨p,rfl,q⟩,λ⟨_,e,q⟩=>by cases e;exact q⟩
 ·rename_i h;rw[oE];exact propext ⟨λz=>z.elim,λ⟨p,e,_⟩=>(h p e).elim⟩
theorem tv_opDIn:Tv (Ds k d) Q=∃ r,eV d k=some r/\Q (.bl r.isSome):=by unfold Ds;rw[Bp]
theorem tv_opDNotIn:Tv (j6 k d) Q=∃ r,eV d k=some r/\Q (.bl (!r.isSome)):=by unfold j6;rw[Bp]
theorem tv_dictP:Tv (qU d l) Q=∃ ps d',lu l=some ps/\gR d ps=some d'/\Q d':=by
 unfold qU;split
 ·rename_i ps h;rw[h];refine propext ⟨?_,?_⟩
  ·rintro⟨r,e,q⟩;cases h2:gR d ps with
   |none=>rw[h2] at e;cases e
   |some d'=>rw[h2] at e;cases e;exact⟨ps,_,rfl,h2,q⟩
  ·rintro⟨ps',d',e1,e2,q⟩;cases e1;exact⟨d',by rw[e2];rfl,q⟩
 ·rename_i h;rw[oE];exact propext ⟨λz=>z.elim,λ⟨ps,_,e,_⟩=>by rw[h] at e;cases e⟩
theorem tv_newT:Tv (vR ρ) Q=Q (.dt []):=tv_some
theorem to_dput:To (ug i f g ρ) QS=Tv (f ρ) (λp=>∃ d,ρ[i]?=some (some (.ow d))/\Tv (g ρ) (λk=>∃ d',Hh d k p=some d'/\QS (.nx (ρ.set i (some (.ow d')))))):=by
 unfold ug;rw[to_bnd];congr 1;funext p
 refine propext ⟨?_,?_⟩
 ·rintro⟨r,e,c,q⟩;split at e
  ·rename_i d hd;refine⟨d,bw hd,?_⟩;rcases b7 e with⟨z,e1,rfl⟩|⟨k,e1,e2⟩
   ·exact c.elim
   ·split at e2
    ·rename_i d' h';cases e2;exact⟨k,e1,d',h',q⟩
    ·cases e2
  ·cases e
 ·rintro⟨d,e,k,e1,d',h1,q⟩;refine⟨.nx (ρ.set i (some (.ow d'))),?_,trivial,q⟩;have eo:ownAt i ρ=some d:=by unfold ownAt;rw[e]
  rw[eo];simp only[e1,QW,h1]
end
section
variable{l:List (Key×PV)}{t:List (List Key×PV)}{ks:List PV}{n:Int}{z:Str}
theorem dF_int:eV (.dk l) (.int n)=some (cQ l (.inl n)):=rfl
theorem dF_str:eV (.dk l) (.str z)=some (cQ l (.inr z)):=rfl
theorem dF_tup:eV (.dt t) (.tup ks)=(dY ks).map (cQ t):=rfl
theorem isD_dk:(PV.dk l).isD=true:=rfl
theorem isD_dt:(PV.dt t).isD=true:=rfl
end
section
variable{κ:Type}[DecidableEq κ]
theorem wO(k j:κ)(p:PV):∀ l:List (κ×PV),cQ (ir l k p) j=if j=k then some p else cQ l j
 |[]=>by
  unfold ir cQ;by_cases h:k=j
  ·rw[Zag h,Zag h.symm]
  ·rw[Zae h,Zae (ZaX h)];rfl
 |(a,q)::l=>by
  have ih:=wO k j p l;unfold ir;by_cases h:a=k
  ·rw[Zag h];subst h;unfold cQ;by_cases h2:a=j
   ·rw[Zag h2,Zag h2.symm]
   ·rw[Zae h2,Zae (ZaX h2),Zae h2];split
    ·rw[ih,Zae (ZaX h2)]
    ·rfl
  ·rw[Zae h];unfold cQ;by_cases h2:a=j
   ·rw[Zag h2,Zag h2,Zae (λz=>h (h2.trans z))]
   ·rw[Zae h2,Zae h2,ih]
theorem Ey(k:κ)(p:PV):∀ l:List (κ×PV),(ir l k p).length<=l.length+1
 |[]=>by simp[ir]
 |(a,q)::l=>by
  have ih:=Ey k p l;unfold ir;split
  ·split
   ·simp only[Zaz];lia
   ·simp only[Zaz];lia
  ·simp only[Zaz];lia
end
section
variable{f:Fn PV}{ρ:Rho}{Q:PV->Prop}{QS:Out->Prop}{i:Nat}{p:PV}
theorem tv_still:Tv (vW f ρ) Q=Tv (f ρ) (λp=>p.still=true/\Q p):=by
 unfold vW;rw[tv_bnd];congr 1;funext p
 exact b8
theorem to_setD:To (vX i f ρ) QS=Tv (f ρ) (λp=>QS (.nx (ρ.set i (some (.dp p))))):=by unfold vX;simp only[to_bnd,to_nx]
theorem to_retDp:To (sY i ρ) QS=∃ p,ρ[i]?=some (some (.dp p))/\QS (.rd p):=by
 refine propext ⟨?_,λ⟨p,e,q⟩=>⟨.rd p,by unfold sY Ay;rw[e],trivial,q⟩⟩
 rintro⟨r,e,c,q⟩;unfold sY at e;split at e
 ·rename_i p hp;cases e;exact⟨p,gU hp,q⟩
 ·cases e
theorem finT_rd:Kz (some (.rd p))=some (.ok p):=rfl
theorem Jw{x:Option Out}{P:PV->Prop}(h:To x λo=>∃ p,Kz (some o)=some (.ok p)/\P p):∃ p,Kz x=some (.ok p)/\P p:=by
 obtain⟨o,e,_,q⟩:=h;rw[e];exact q
theorem tv_zip{l m:List PV}{Q:List PV->Prop}:Tv (NP [.lst l,.lst m]) Q=Q (Hk l m):=tv_some
end
section
variable{f:Fn PV}{ρ:Rho}{Q:PV->Prop}{QS:Out->Prop}{i j:Nat}{s:Sn}{p:PV}
theorem lF:∀ ns:List Int,mX (ns.map .int)=some ns
 |[]=>rfl
 |n::ns=>by show(mX (ns.map .int)).map (n::·)=_;rw[lF ns];rfl
theorem tv_holdE:Tv (lw i f ρ) Q=∃ p,ρ[i]?=some (some (.sh p))/\p.isD=true/\Tv (f ρ) Q:=by
 refine propext ⟨?_,λ⟨p,e,d,r,e2,q⟩=>⟨r,by unfold lw;rw[e];simp only;rw[Zag d];exact e2,q⟩⟩
 rintro⟨r,e,q⟩;unfold lw at e;split at e
 ·rename_i p hp;split at e
  ·rename_i d;exact⟨p,hp,d,r,e,q⟩
  ·cases e
 ·cases e
def Jx(QS:Out->Prop):Out->Prop
 |.rd _=>False
 |o=>QS o
theorem holdQ_nx:Jx QS (.nx ρ)=QS (.nx ρ):=rfl
theorem holdQ_rt:Jx QS (.rt p)=QS (.rt p):=rfl
theorem holdQ_ro:Jx QS (.ro p)=QS (.ro p):=rfl
theorem to_hold:To (yV i s ρ) QS=∃ p,ρ[i]?=some (some (.sh p))/\p.isD=true/\To (s ρ) (Jx QS):=by
 refine propext ⟨?_,λ⟨p,e,d,o,e2,c,q⟩=>⟨o,?_,c,?_⟩⟩
 ·rintro⟨o,e,c,q⟩;unfold yV at e;split at e
  ·rename_i p hp;split at e
   ·rename_i d;refine⟨p,hp,d,o,?_⟩;split at e
    ·cases e
    ·rename_i x hx;refine⟨e,c,?_⟩;cases o with
     |rd y=>exact(hx y e).elim
     |_=>exact q
   ·cases e
  ·cases e
 ·unfold yV;rw[e];simp only;rw[Zag d,e2];cases o with
  |rd y=>exact q.elim
  |_=>rfl
 ·cases o with
  |rd y=>exact q.elim
  |_=>exact q
theorem to_io2{m:List PV->Option (Res PV)}{f:Fn (List PV)}:To (KH i j m f ρ) QS=∃ p q,ρ[i]?=some (some (.ow p))/\ρ[j]?=some (some (.ow q))/\Tv (f ρ) (λl=>∃ p' q',m (p::q::l)=some (.ok (.tup [p',q']))/\QS (.nx ((ρ.set i (some (.ow p'))).set j (some (.ow q'))))):=by
 refine propext ⟨λh=>?_,?_⟩
 ·unfold KH at h;rw[to_bnd] at h;obtain⟨l,e,o,e2,c,h⟩:=h;unfold uL at e;split at e
  ·rename_i p q h1 h2;rcases bK e with⟨z,_,e3⟩|⟨l',e3,e4⟩
   ·cases e3
   ·cases e4;split at e2
    ·rename_i p' q' hm;cases e2;exact⟨p,q,bw h1,bw h2,l',e3,p',q',hm,h⟩
    ·cases e2
  ·cases e
 ·rintro⟨p,q,e1,e2,l,e3,p',q',e4,h⟩;have o1:ownAt i ρ=some p:=by unfold ownAt;rw[e1]
  have o2:ownAt j ρ=some q:=by unfold ownAt;rw[e2]
  refine⟨.nx ((ρ.set i (some (.ow p'))).set j (some (.ow q'))),?_,trivial,h⟩;unfold KH uL;rw[o1,o2];simp only[e3,bnd,fP,e4]
theorem tv_callT{m:List PV->Option (Res PV)}{f:Fn (List PV)}:Tv (Ba m f ρ) Q=Tv (f ρ) (λl=>Tv (m l) Q):=by
 unfold Ba;rw[tv_bnd];congr 1;funext l
 refine propext ⟨?_,λ⟨r,e,q⟩=>⟨r,by rw[e],q⟩⟩
 rintro⟨r,e,q⟩;split at e
 ·rename_i p hp;cases e;exact⟨_,hp,q⟩
 ·cases e
theorem to_frzD:To (uh i s ρ) QS=∃ p,ρ[i]?=some (some (.dp p))/\To (s (ρ.set i (some (.sh p)))) QS:=by
 refine propext ⟨?_,λ⟨p,e,r,e2,q⟩=>⟨r,by unfold uh Ay;rw[e];exact e2,q⟩⟩
 rintro⟨r,e,q⟩;unfold uh at e;split at e
 ·rename_i p hp;exact⟨p,gU hp,r,e,q⟩
 ·cases e
theorem tv_ownD:Tv (oR i ρ) Q=∃ p,ρ[i]?=some (some (.ow p))/\p.lC=true/\Q p:=by
 refine propext ⟨?_,λ⟨p,e,h,q⟩=>⟨p,by unfold oR ownAt;rw[e];simp only;rw[Zag h],q⟩⟩
 rintro⟨r,e,q⟩;unfold oR at e;split at e
 ·rename_i p hp;split at e
  ·rename_i h;cases e;exact⟨_,bw hp,h,q⟩
  ·cases e
 ·cases e
theorem to_retT{f:Fn (List PV)}:To (DG f ρ) QS=Tv (f ρ) (λl=>l.length<=sizeLine/\QS (.rd (.tup l))):=by
 unfold DG;rw[to_bnd];congr 1;funext l
 by_cases h:l.length<=sizeLine
 ·rw[Zag h,to_rd];simp[h]
 ·rw[Zae h,Ju];simp[h]
theorem zu{x:Option Out}{P:PV->Prop}(h:To x λo=>∃ p,vY (some o)=some (.ok p)/\P p):∃ p,vY x=some (.ok p)/\P p:=by
 obtain⟨o,e,_,q⟩:=h;rw[e];exact q
end
section
variable{s t:Sn}{ρ:Rho}{z p:PV}{QS:Out->Prop}{Q:PV->Prop}{f:Fn PV}{i:Nat}
theorem VN(h:s ρ=some (.ex z)):bf s t ρ=some (.ex z):=by unfold bf;rw[h]
theorem VP(h:To (s ρ) (Eu (λρ'=>t ρ'=some (.ex z)) λ_=>False)):bf s t ρ=some (.ex z):=by
 obtain⟨o,e,_,q⟩:=h;cases o with
 |nx ρ'=>unfold bf;rw[e];exact q
 |_=>exact q.elim
theorem Xq{c:Fn Bool}(h:Tv (c ρ) λb=>if b=true then s ρ=some (.ex z) else t ρ=some (.ex z)):jh c s t ρ=some (.ex z):=by
 obtain⟨b,e,q⟩:=h;unfold jh;rw[e];cases b<;>exact q
theorem O8{c:Str}{fs:List Str}{g:Fn (List PV)}(h:Tv (g ρ) λl=>l.length=fs.length/\.exc c (fs.zip l)=z):wJ c fs g ρ=some (.ex z):=by
 obtain⟨l,e,q,rfl⟩:=h;unfold wJ;rw[e];show(if _ then _ else _)=_
 rw[Zag q]
theorem R9(h:f ρ=some (.ex z)):yL f ρ=some (.ex z):=by unfold yL;rw[h];rfl
theorem Sd{m:List PV->Option (Res PV)}{g:Fn (List PV)}(h:Tv (g ρ) λl=>m l=some (.ex z)):bJ m g ρ=some (.ex z):=by
 obtain⟨l,e,q⟩:=h;unfold bJ;rw[e];exact q
theorem VR{hh:PV->Sn}(h:To (s ρ) QS):To (HB s hh ρ) QS:=by
 obtain⟨o,e,c,q⟩:=h;refine⟨o,?_,c,q⟩;unfold HB;rw[e];cases o with
 |ex z=>exact c.elim
 |_=>rfl
theorem V0{hh:PV->Sn}(h:s ρ=some (.ex z))(h2:To (hh z ρ) QS):To (HB s hh ρ) QS:=by
 unfold HB;rw[h];exact h2
def wQ(i:Nat)(QS:Out->Prop):Out->Prop
 |.nx ρ=>QS (.nx (ρ.set i none))
 |.bk ρ=>QS (.bk (ρ.set i none))
 |.ct ρ=>QS (.ct (ρ.set i none))
 |o=>QS o
theorem goneQ_nx:wQ i QS (.nx ρ)=QS (.nx (ρ.set i none)):=rfl
theorem goneQ_bk:wQ i QS (.bk ρ)=QS (.bk (ρ.set i none)):=rfl
theorem goneQ_ct:wQ i QS (.ct ρ)=QS (.ct (ρ.set i none)):=rfl
theorem goneQ_rt:wQ i QS (.rt p)=QS (.rt p):=rfl
theorem goneQ_ro:wQ i QS (.ro p)=QS (.ro p):=rfl
theorem to_gone{x:Option Out}:To (Ua i x) QS=To x (wQ i QS):=by
 refine propext ⟨?_,?_⟩
 ·rintro⟨o,e,c,q⟩;cases x with
  |none=>cases e
  |some y=>cases y<;>cases e<;>first|exact⟨_,rfl,trivial,q⟩|exact c.elim
 ·rintro⟨o,e,c,q⟩;subst e;cases o with
  |ex z=>exact c.elim
  |_=>exact⟨_,rfl,trivial,q⟩
theorem V1{sub:Str->Option Bool}{rest:PV->Sn}{c:Str}{l:List (Str×PV)}(h:sub c=some true):To (RX sub i s rest (.exc c l) ρ) QS=To (s (ρ.set i (some (.sh (.exc c l))))) (wQ i QS):=by
 show To (match sub c with|some true=>_|some false=>_|none=>none) QS=_
 rw[h];exact to_gone
theorem nn_non:PV.non.jj=true:=rfl
theorem nn_int{i:Int}:(PV.int i).jj=false:=rfl
theorem nn_str{z:Str}:(PV.str z).jj=false:=rfl
theorem nn_bl{b:Bool}:(PV.bl b).jj=false:=rfl
theorem nn_tup{l:List PV}:(PV.tup l).jj=false:=rfl
theorem nn_lst{l:List PV}:(PV.lst l).jj=false:=rfl
theorem nn_exc{c:Str}{l:List (Str×PV)}:(PV.exc c l).jj=false:=rfl
def Yj(sub:Str->Option Bool)(no:Bool):PV->Option Bool
 |.exc c (_::_)=>sub c
 |.non=>some no
 |_=>none
theorem tv_isX{sub:Str->Option Bool}{no:Bool}:Tv (Bl sub no f ρ) Q=Tv (f ρ) (λp=>∃ b,Yj sub no p=some b/\Q (.bl b)):=by
 unfold Bl;rw[tv_bnd];congr 1;funext p
 have no':∀ {P:Bool->Prop},Tv (none:Option (Res PV)) Q=∃ b,(none:Option Bool)=some b/\P b:=λ{P}=>by
  rw[oE];exact propext ⟨λh=>h.elim,λ⟨_,e,_⟩=>nomatch e⟩
 cases p with
 |non=>exact propext ⟨λ⟨r,e,q⟩=>by cases e;exact⟨no,rfl,q⟩,λ⟨b,e,q⟩=>by cases e;exact⟨_,rfl,q⟩⟩
 |exc c l=>
  cases l with
  |nil=>exact no'
  |cons x l=>
   show Tv ((sub c).map λb=>.ok (.bl b)) Q=∃ b,sub c=some b/\_
   cases h:sub c with
   |none=>exact no'
   |some b=>exact propext ⟨λ⟨r,e,q⟩=>by cases e;exact⟨b,rfl,q⟩,λ⟨b,e,q⟩=>by cases e;exact⟨_,rfl,q⟩⟩
 |_=>exact no'
def Xr(nm:Str->Bool)(g:Str):PV->Option PV
 |.exc c (x::l)=>if nm c=true then(x::l).lookup g else none
 |_=>none
theorem tv_fldX{nm:Str->Bool}{g:Str}:Tv (wL nm g f ρ) Q=Tv (f ρ) (λp=>∃ q,Xr nm g p=some q/\Q q):=by
 unfold wL;rw[tv_bnd];congr 1;funext p
 have no':Tv (none:Option (Res PV)) Q=∃ b,(none:Option PV)=some b/\Q b:=by
  rw[oE];exact propext ⟨λh=>h.elim,λ⟨_,e,_⟩=>nomatch e⟩
 cases p with
 |exc c l=>
  cases l with
  |nil=>exact no'
  |cons x l=>
   show Tv (if nm c=true then((x::l).lookup g).map .ok else none) Q=∃ q,(if nm c=true then(x::l).lookup g else none)=some q/\Q q
   by_cases hn:nm c=true
   ·rw[Zag hn,Zag hn];cases h:(x::l).lookup g with
    |none=>exact no'
    |some b=>exact propext ⟨λ⟨r,e,q⟩=>by cases e;exact⟨_,rfl,q⟩,λ⟨b,e,q⟩=>by cases e;exact⟨_,rfl,q⟩⟩
   ·rw[Zae hn,Zae hn];exact no'
 |_=>exact no'
theorem tv_noE:Tv (HJ f ρ) Q=Tv (f ρ) Q:=by
 refine propext ⟨?_,λ⟨r,e,q⟩=>⟨r,by unfold HJ;rw[e],q⟩⟩
 rintro⟨r,e,q⟩;unfold HJ at e;split at e
 ·rename_i p hp;cases e;exact⟨_,hp,q⟩
 ·cases e
end
def jT:Str->Option Bool:=λc=>if c="Kept" then some true else none
def Bq:Str->Option Bool:=λc=>if c="Kept" then some true else none
def tL:Str->Option Bool:=λc=>if c="Kept" then some false else none
def pZ:Str->Option Bool:=λc=>if c="Kept" then some false else none
def m7:Str->Option Bool:=λc=>if c="Kept" then some false else none
def wR:Str->Option Bool:=λc=>if c="Kept" then some false else none
def jU:Str->Option Bool:=λc=>if c="Kept" then some true else none
def oF:Str->Bool:=λc=>(["Kept"]:List Str).contains c
def Br:Str->Bool:=λc=>(["Kept"]:List Str).contains c
def p6:Sn:=
 (fD (m2 dz (m2 fO (m2 cY (mV 1) (mC (.int 1))) (m2 cY (mV 0) (mC (.int 0)))) (m2 cY (mV 1) (mC (.int 0)))))
def gG:List PV->Option (Res PV)
 |[a0,a1]=>fin (p6 (startR [a0,a1] 0))
 |_=>none
def p7:Sn:=
 (fD (m2 oK (m2 qM (m2 yO (mV 1) (bJ gG (aA (mV 0) (aA (mV 2) bC)))) (mC (.int 1))) (mC (.int 1))))
def gH:List PV->Option (Res PV)
 |[a0,a1,a2]=>fin (p7 (startR [a0,a1,a2] 0))
 |_=>none
def m8:Sn:=
 (ud (jm (m1 pP (aA (m2 fO (m2 cY (mV 0) (mC (.int 0))) (m2 cY (mV 0) (mC (.int 1)))) bC)) [none,some 0] (gN 0) uv (oJ (aA (m2 gA (mV 0) (m2 cY (mV 1) (mC (.int 0)))) (aA (m2 vH (mV 0) (m2 cY (mV 1) (mC (.int 0)))) bC)))))
def jF:List PV->Option (Res PV)
 |[a0]=>uw (m8 (startR [a0] 0))
 |_=>none
def wU:Sn:=
 (cW (m2 Q0 (mV 2) (m2 yN (mC (.int 1)) (bJ gG (aA (mV 0) (aA (mV 3) bC))))) (gN 2))
def wV:Sn:=
 (fD (mV 2))
def wW:Sn:=
 (bf (cW (mC (.int 0)) (gN 2))
   (bf (pO (m1 mU (mV 1)) (gN 3)
    wU)
   wV))
def rM:List PV->Option (Res PV)
 |[a0,a1]=>fin (wW (startR [a0,a1] 2))
 |_=>none
def p8:Sn:=
 (ud (jm (m1 mU (bJ jF (aA (mV 0) bC))) [none,some 0,some 1] (gN 0) (m1 dU (bJ gH (aA (mV 1) (aA (mV 2) (aA (mV 0) bC))))) (mV 0)))
def fJ:List PV->Option (Res PV)
 |[a0,a1]=>uw (p8 (startR [a0,a1] 0))
 |_=>none
def wX:Sn:=
 (DG (aA (vW (mV 7)) (aA (oR 3) (aA (oR 4) bC))))
def wY:Sn:=
 (Km 3 (m2 jQ (eF 1) (mV 7)))
def wZ:Sn:=
 (bf (ug 4 (mV 6) (mV 7))
     (bf (jh (m1 dU (m2 j6 (mV 7) (eF 1)))
      wX
      fM)
     wY))
def w5:Sn:=
 (bf (jh (m1 dU (m2 Ds (mV 7) (eF 4)))
      M3
      fM)
     wZ)
def w6:Sn:=
 (cW (m2 dz (mV 5) (mC (.int 1))) (gN 5))
def xf:Sn:=
 (bf (cW (m2 Nf (vN 3) (mV 5)) (gN 6))
    (bf (pO (m1 mU (m2 jQ (eF 0) (mV 6))) (gN 7)
     w5)
    w6))
def xg:Sn:=
 (DG (aA (vW (mC .non)) (aA (oR 3) (aA (oR 4) bC))))
def xm:Sn:=
 (bf (uc 3 (m1 Hc (vN 2)))
   (bf (uc 4 vR)
   (bf (cW (mC (.int 0)) (gN 5))
   (bf (j5 (m1 dU (m2 Ku (mV 5) (m1 oO (mVL 3))))
    xf 2000)
   xg))))
def jq:List PV->Option (Res PV)
 |[a0,a1,a2]=>Kz (xm (startR [a0,a1,a2] 5))
 |_=>none
def oW:Sn:=
 (bf (cW (m2 jQ (eF 2) (mV 4)) (gN 5))
    (bf (cW (Aw (eF 0) (mV 5)) (gN 6))
    (bf (ug 0 (mV 4) (mV 5))
    (bf (ug 1 (mV 5) (mV 4))
    (cW (mV 6) (gN 4))))))
def iy:Sn:=
 (bf (cW (mV 3) (gN 4))
   (j5 (m1 dU (m2 vI (mVL 4) (mC .non)))
    oW 2000))
def d7:List PV->Option (Res PV)
 |[a0,a1,a2,a3]=>vY (iy (dZ [a0,a1,a2,a3] 3))
 |_=>none
def m9:Sn:=
 (bf (vX 4 (Ba jq (aA (mVL 0) (aA (mVL 2) (aA (GR (aA (mV 3) bC)) bC)))))
    (uh 4 (KH 1 2 d7 (aA (m2 cY (mV 4) (mC (.int 2))) (aA (m2 cY (mV 4) (mC (.int 0))) bC)))))
def ni:Sn:=
 (pN 1)
def lH:Sn:=
 (bf (uc 1 vR)
   (bf (uc 2 vR)
   (bf (yV 0 (pO (m1 rF (mV 0)) (gN 3)
    m9))
   ni)))
def fV:List PV->Option (Res PV)
 |[a0]=>uw (lH (startR [a0] 4))
 |_=>none
def fW:Sn:=
 (bf (cW (m1 (qU (.dt [])) (qP (lw 1 (jm (m1 rG (mV 1)) [none,none] (gT 2 (gsCons (gN 0) (gsCons (gN 1) gsNil))) uv (oJ (aA (mV 1) (aA (mV 0) bC))))))) (gN 2))
   (bf (vX 3 (bJ jq (aA (mV 0) (aA (mV 2) (aA (lw 0 (jm (m1 rF (mV 0)) [none,some 1] (gN 0) (m1 dU (m2 j6 (mV 0) (eF 1))) (mV 0))) bC)))))
   (uh 3 (fD (oJ (aA (m1 ou (qP (m2 cY (mV 3) (mC (.int 1))))) (aA (m1 wF (Av (m2 cY (mV 3) (mC (.int 2))))) bC)))))))
def dN:List PV->Option (Res PV)
 |[a0,a1]=>fin (fW (startR [a0,a1] 2))
 |_=>none
def lJ:Sn:=
 (fD (mIf (m1 dU (m2 oK (mVL 1) (mC (.str "row")))) (m2 cY (mV 0) (mC (.int 1))) (m2 cY (mV 0) (mC (.int 0)))))
def lK:List PV->Option (Res PV)
 |[a0,a1]=>fin (lJ (startR [a0,a1] 0))
 |_=>none
def jG:Sn:=
 (fD (mIf (m1 dU (m2 oK (mVL 1) (mC (.str "row")))) (m2 cY (mV 0) (mC (.int 0))) (m2 cY (mV 0) (mC (.int 1)))))
def jH:List PV->Option (Res PV)
 |[a0,a1]=>fin (jG (startR [a0,a1] 0))
 |_=>none
def kj:Sn:=
 (ud (jm (m1 vK (aA (m2 cY (mV 0) (mC (.int 2))) (aA (m2 dz (m2 cY (mV 0) (mC (.int 3))) (mC (.int 1))) bC))) [none,some 0] (gN 0) uv (oJ (aA (mV 0) (aA (m2 cY (mV 1) (mC (.int 1))) bC)))))
def kE:Sn:=
 (ud (jm (m1 vK (aA (m2 cY (mV 0) (mC (.int 2))) (aA (m2 dz (m2 cY (mV 0) (mC (.int 3))) (mC (.int 1))) bC))) [none,some 0] (gN 0) uv (oJ (aA (m2 cY (mV 1) (mC (.int 1))) (aA (mV 0) bC)))))
def fX:Sn:=
 (bf (jh (m1 dU (m2 oK (m2 cY (mV 0) (mC (.int 0))) (mC (.str "row"))))
    kj
    fM)
   kE)
def dq:List PV->Option (Res PV)
 |[a0]=>uw (fX (startR [a0] 0))
 |_=>none
def dO:Sn:=
 (bf (cW (m2 ue (bJ jH (aA (mV 0) (aA (mV 2) bC))) (mC (.int 1))) (gN 4))
   (bf (cW (bJ dq (aA (oJ (aA (mV 2) (aA (mV 3) (aA (mC (.int 0)) (aA (mV 4) bC))))) bC)) (gN 5))
   (bf (cW (m2 yQ (qP (m2 yQ (qP (GR (aA (m1 Nq (mC (.int 1))) bC))) (qP (jm (m1 Hb (aA (mV 5) bC)) [none,none,some 0,some 1] (gT 2 (gsCons (gN 0) (gsCons (gN 1) gsNil))) (m1 dU (bJ gH (aA (mV 2) (aA (mV 3) (aA (mV 1) bC))))) (mV 0))))) (qP (GR (aA (m2 dz (mV 4) (mC (.int 1))) bC)))) (gN 6))
   (ud (jm (m1 NP (aA (mV 6) (aA (Q7 (vN 6) (m1 asInt (mC (.int 1))) mPn) bC))) [none,none,some 2,some 3] (gT 2 (gsCons (gN 0) (gsCons (gN 1) gsNil))) (m1 dU (m2 Ku (m2 dz (mV 0) (mC (.int 1))) (mV 1))) (oJ (aA (mV 2) (aA (mV 3) (aA (m2 dz (mV 0) (mC (.int 1))) (aA (m2 ue (mV 1) (mC (.int 1))) bC))))))))))
def dR:List PV->Option (Res PV)
 |[a0,a1,a2,a3]=>uw (dO (startR [a0,a1,a2,a3] 3))
 |_=>none
def iH:Sn:=
 (ug 3 (mV 5) (mV 6))
def iI:Sn:=
 (pO (m1 mU (bJ dq (aA (mV 5) bC))) (gN 6)
      iH)
def iJ:Sn:=
 (pO (m1 mU (bJ dR (aA (mV 0) (aA (mV 1) (aA (mV 2) (aA (mV 4) bC)))))) (gN 5)
     iI)
def iK:Sn:=
 (pN 3)
def fY:Sn:=
 (bf (uc 3 vR)
   (bf (pO (m1 pP (aA (bJ lK (aA (mV 0) (aA (mV 2) bC))) bC)) (gN 4)
    iJ)
   iK))
def cB:List PV->Option (Res PV)
 |[a0,a1,a2]=>uw (fY (startR [a0,a1,a2] 4))
 |_=>none
def oX:Sn:=
 (rC 5 (m2 jQ (eF 3) (mV 6)) (m2 jQ (eF 4) (mV 6)))
def oY:Sn:=
 (sY 5)
def nj:Sn:=
 (bf (cW (bJ cB (aA (mV 0) (aA (mV 2) (aA (mC (.str "row")) bC)))) (gN 3))
   (bf (cW (bJ cB (aA (mV 0) (aA (mV 2) (aA (mC (.str "column")) bC)))) (gN 4))
   (bf (vX 5 (TV vR))
   (bf (pO (m1 mU (bJ fJ (aA (mV 0) (aA (mV 1) bC)))) (gN 6)
    oX)
   oY))))
def iz:List PV->Option (Res PV)
 |[a0,a1,a2]=>Kz (nj (startR [a0,a1,a2] 4))
 |_=>none
def jr:Sn:=
 (wJ "Kept" ["column","row"] (aA (m2 cY (m2 cY (mV 3) (mC (.int 0))) (mC (.int 0))) (aA (m2 cY (m2 cY (mV 3) (mC (.int 0))) (mC (.int 1))) bC)))
def jt:Sn:=
 (bf (vX 4 (bJ iz (aA (mV 0) (aA (mV 1) (aA (mV 2) bC)))))
   (bf (uh 4 (cW (bJ fV (aA (mV 4) bC)) (gN 5)))
   (bf (cW (bJ dN (aA (mV 4) (aA (mV 5) bC))) (gN 6))
   (bf (cW (m2 yQ (qP (HJ (lw 4 (jm (m1 rF (mV 4)) [none,some 6] (gN 0) (m1 dU (m2 nQ (mVL 0) (m2 cY (mV 1) (mC (.int 0))))) (mV 0))))) (qP (m2 cY (mV 6) (mC (.int 1))))) (gN 7))
   (bf (cW (bJ rM (aA (mV 0) (aA (HJ (lw 5 (jm (m1 rG (mV 5)) [none,none] (gT 2 (gsCons (gN 0) (gsCons (gN 1) gsNil))) uv (oJ (aA (m2 cY (mV 1) (mC (.int 1))) (aA (m2 cY (mV 0) (mC (.int 1))) bC)))))) bC))) (gN 8))
   (fD (oJ (aA (m1 ou (vN 7)) (aA (bJ fJ (aA (mV 0) (aA (mV 8) bC))) bC)))))))))
def cg:Sn:=
 (bf (cW (bJ fJ (aA (mV 0) (aA (m2 qM (mV 1) (mV 2)) bC))) (gN 3))
   (bf (jh (m1 dU (m2 Ks (m1 oO (mVL 3)) (mC (.int 0))))
    jr
    fM)
   jt))
def du:List PV->Option (Res PV)
 |[a0,a1,a2]=>fin (cg (startR [a0,a1,a2] 6))
 |_=>none
def oZ:Sn:=
 (fD (m2 cY (mV 0) (mV 1)))
def o7:Sn:=
 (cW (m2 dz (mV 2) (m2 gA (m2 cY (mV 0) (m2 gA (m2 fO (mV 1) (mC (.int 7))) (m1 oO (mVL 0)))) (mC (.int 2147483629)))) (gN 2))
def jV:Sn:=
 (fD (m2 gA (m2 fO (mV 2) (mV 2)) (mC (.int 2147483629))))
def o8:Sn:=
 (bf (cW (m2 dz (m2 fO (mV 1) (mV 1)) (mC (.int 7919))) (gN 2))
   (bf (jh (m1 dU (m2 Ks (m1 oO (mVL 0)) (mC (.int 0))))
    o7
    fM)
   jV))
def nq:Sn:=
 (bf (jh (m1 dU (m2 Ku (mV 1) (m1 oO (mVL 0))))
    oZ
    fM)
   o8)
def d8:List PV->Option (Res PV)
 |[a0,a1]=>fin (nq (startR [a0,a1] 1))
 |_=>none
def nu:Sn:=
 (fD (m2 qM (m2 yO (mV 0) (m2 fO (mC (.int 31)) (mV 1))) (mC (.int 2147483647))))
def nA:Sn:=
 (bf (cW (m2 gA (m2 fO (m2 dz (m2 dz (m2 dz (m2 gA (mV 0) (mC (.int 2147483629))) (m2 fO (m2 fO (mC (.int 7919)) (mV 1)) (mV 1))) (mV 1)) (mC (.int 13))) (mC (.int 48271))) (mC (.int 2147483587))) (gN 2))
   (bf (cW (m2 gA (m2 fO (mV 2) (mV 2)) (mC (.int 2147483629))) (gN 2))
   (fD (m2 gA (m2 fO (m2 dz (mV 2) (mV 1)) (mC (.int 69621))) (mC (.int 2147483563))))))
def lL:Sn:=
 (bf (jh (m1 dU (m2 Q3 (mV 0) (m2 Io (mC (.int 10)) (mC (.int 18)))))
    nu
    fM)
   nA)
def cI:List PV->Option (Res PV)
 |[a0,a1]=>fin (lL (startR [a0,a1] 1))
 |_=>none
def o9:Sn:=
 (fD (oJ (aA (m2 dz (mC (.int 1)) (m2 gA (mV 1) (mC (.int 24)))) (aA (m2 dz (mC (.int 1)) (m2 gA (m2 vH (mV 1) (mC (.int 24))) (mC (.int 24)))) bC))))
def pg:Sn:=
 (fD (oJ (aA (m2 dz (mC (.int 1)) (m2 gA (mV 1) (mC (.int 6)))) (aA (m2 dz (mC (.int 1)) (m2 gA (m2 vH (mV 1) (mC (.int 6))) (mC (.int 6)))) bC))))
def jJ:Sn:=
 (bf (cW (bJ cI (aA (mV 0) (aA (mC (.int 3)) bC))) (gN 1))
   (bf (jh (m1 dU (m2 oK (m2 gA (bJ cI (aA (mV 0) (aA (mC (.int 4)) bC))) (mC (.int 8))) (mC (.int 3))))
    o9
    fM)
   pg))
def iB:List PV->Option (Res PV)
 |[a0]=>fin (jJ (startR [a0] 1))
 |_=>none
def rN:Sn:=
 (cW (m2 dz (m2 fO (mV 4) (mC (.int 2147483587))) (bJ cI (aA (mV 1) (aA (m2 dz (m2 fO (mC (.int 30)) (mV 2)) (mV 5)) bC)))) (gN 4))
def rO:Sn:=
 (fD (m2 ue (m2 yN (mC (.int 1)) (mV 3)) (mC (.int 1))))
def rP:Sn:=
 (fD (mC (.int 0)))
def rQ:Sn:=
 (fD (mV 4))
def rR:Sn:=
 (bf (jh (m1 dU (m2 oK (mVL 6) (mC (.int 2))))
    rP
    fM)
   rQ)
def rT:Sn:=
 (bf (cW (m2 gA (mV 4) (m2 yN (mC (.int 1)) (mV 3))) (gN 4))
   (bf (cW (m2 gA (bJ cI (aA (mV 1) (aA (m2 dz (m2 fO (mC (.int 30)) (mV 2)) (mC (.int 29))) bC))) (mC (.int 8))) (gN 6))
   (bf (jh (m1 dU (m2 oK (mVL 6) (mC (.int 1))))
    rO
    fM)
   rR)))
def lM:Sn:=
 (bf (cW (m2 fO (m2 cY (mV 0) (mC (.int 0))) (m2 cY (mV 0) (mC (.int 1)))) (gN 3))
   (bf (cW (mC (.int 0)) (gN 4))
   (bf (pO (m1 pP (aA (m2 dz (mC (.int 1)) (m2 vH (mV 3) (mC (.int 30)))) bC)) (gN 5)
    rN)
   rT)))
def gJ:List PV->Option (Res PV)
 |[a0,a1,a2]=>fin (lM (startR [a0,a1,a2] 4))
 |_=>none
def kI:Sn:=
 (cW (mV 4) (gN 3))
def gM:Sn:=
 (fD (mV 3))
def fZ:Sn:=
 (bf (cW (mC .non) (gN 3))
   (bf (HB (yL (bJ du (aA (mV 0) (aA (mV 1) (aA (mV 2) bC)))))
    (RX jT 4 kI T8))
   gM))
def cu:List PV->Option (Res PV)
 |[a0,a1,a2]=>fin (fZ (startR [a0,a1,a2] 2))
 |_=>none
def nC:Sn:=
 (fD (oJ (aA (mV 3) (aA (mV 2) bC))))
def nF:Sn:=
 (jh (m1 dU (m2 oK (m2 qM (m2 yO (mV 1) (m2 dz (m2 fO (mV 2) (m2 cY (mV 0) (mC (.int 0)))) (mV 3))) (mC (.int 1))) (mC (.int 1))))
      nC
      fM)
def nG:Sn:=
 (pO (m1 pP (aA (m2 cY (mV 0) (mC (.int 0))) bC)) (gN 3)
     nF)
def nH:Sn:=
 (fD (mC .non))
def iR:Sn:=
 (bf (pO (m1 pP (aA (m2 cY (mV 0) (mC (.int 1))) bC)) (gN 2)
    nG)
   nH)
def iT:List PV->Option (Res PV)
 |[a0,a1]=>fin (iR (startR [a0,a1] 2))
 |_=>none
def ph:Sn:=
 (fD (m2 Ip (mVL 4) (mC .non)))
def ye:Sn:=
 (fD (mC (.bl false)))
def yf:Sn:=
 (fD (mC (.bl false)))
def yg:Sn:=
 (fD (mC (.bl false)))
def pq:Sn:=
 (jh (mOr (GP (m1 dU (m2 Kv (mVL 5) (mC (.ty "int"))))) (m1 dU (m2 Kv (mVL 5) (mC (.ty "bool")))))
     yg
     fM)
def pC:Sn:=
 (fD (m2 oK (oJ (aA (wL oF "column" (mV 4)) (aA (wL Br "row" (mV 4)) bC))) (mVL 3)))
def pD:Sn:=
 (bf (pO (m1 mU (GR (aA (wL oF "column" (mV 4)) (aA (wL Br "row" (mV 4)) bC)))) (gN 5)
    pq)
   pC)
def pF:Sn:=
 (bf (jh (mOr (m1 dU (Bl pZ false (mVL 4))) (mOr (m1 dU (Bl tL false (mVL 4))) (m1 dU (Bl wR false (mVL 4)))))
    yf
    fM)
   pD)
def pG:Sn:=
 (bf (jh (mOr (GP (m1 dU (Bl Bq false (mVL 4)))) (mOr (GP (m1 dU (Bl jU false (mVL 4)))) (m1 dU (Bl m7 false (mVL 4)))))
    ye
    fM)
   pF)
def jK:Sn:=
 (bf (cW (bJ iT (aA (mV 0) (aA (m2 qM (mV 1) (mV 2)) bC))) (gN 3))
   (bf (cW (bJ cu (aA (mV 0) (aA (mV 1) (aA (mV 2) bC)))) (gN 4))
   (bf (jh (m1 dU (m2 Ip (mVL 3) (mC .non)))
    ph
    fM)
   pG)))
def jL:List PV->Option (Res PV)
 |[a0,a1,a2]=>fin (jK (startR [a0,a1,a2] 3))
 |_=>none
def Sg:Sn:=
 (fD (mC (.bl false)))
def Sh:Sn:=
 (fD (mC (.bl false)))
def Jy:Sn:=
 (fD (mC (.bl true)))
def Jz:Sn:=
 (jh (m1 dU (m2 Ks (m2 fO (m2 cY (mV 1) (mC (.int 0))) (m2 cY (mV 1) (mC (.int 1)))) (mC (.int 100))))
     Jy
     fM)
def JB:Sn:=
 (bf (cW (m2 qM (mV 4) (mV 5)) (gN 6))
    (bf (jh (mOr (m1 dU (m2 vI (bJ cu (aA (mV 1) (aA (m2 ue (mV 4) (mV 6)) (aA (mV 5) bC)))) (mC .non))) (m1 dU (m2 vI (bJ cu (aA (mV 1) (aA (mV 4) (aA (m2 ue (mV 5) (mV 6)) bC)))) (mC .non))))
     Sh
     fM)
    Jz))
def JC:Sn:=
 (bf (cW (bJ d8 (aA (mV 0) (aA (mV 2) bC))) (gN 3))
    (bf (cW (bJ gJ (aA (mV 1) (aA (mV 3) (aA (mC (.int 1)) bC)))) (gN 4))
    (bf (cW (bJ gJ (aA (mV 1) (aA (mV 3) (aA (mC (.int 2)) bC)))) (gN 5))
    (bf (jh (GP (m1 dU (bJ jL (aA (mV 1) (aA (mV 4) (aA (mV 5) bC))))))
     Sg
     fM)
    JB))))
def JD:Sn:=
 (fD (mC (.bl true)))
def JF:Sn:=
 (bf (cW (bJ iB (aA (bJ d8 (aA (mV 0) (aA (mC (.int 1)) bC))) bC)) (gN 1))
   (bf (pO (m1 vK (aA (mC (.int 2)) (aA (m2 Nm (mC (.int 3)) (m2 Np (m1 oO (mVL 0)) (mC (.int 8)))) bC))) (gN 2)
    JC)
   JD))
def zA:List PV->Option (Res PV)
 |[a0]=>fin (JF (startR [a0] 6))
 |_=>none
local macro_rules|`(tactic| walk_at "rd")=>do
 let ids:=("onNx_nx onNx_rt onNx_ro onNx_rd onNx_bk onNx_ct tv_some to_nx to_rt to_ro to_rd to_bk to_ct tv_ite to_ite turn_nx turn_ct turn_bk turn_rt turn_ro turn_rd tv_bnd to_bnd to_seq tv_m2 tv_m1 tv_var tv_lend tv_c tv_view tv_viewN tv_asLst tv_nil tv_cons tv_tup tv_lst tv_call tv_mIf tv_mOr tv_mNot tv_comp tv_compN tv_compC tv_yes to_next to_cont to_ret to_retO to_drop to_hold to_frzD to_retT tv_ownD tv_callT holdQ_nx holdQ_rt holdQ_ro tv_noE tv_holdE to_io2 to_setO to_setD to_retDp tv_still to_asgN to_asg to_if to_for to_retOw to_app tv_neg tv_viewD tv_viewDN tv_dget1 tv_opDGet tv_opDIn tv_opDNotIn tv_dictP tv_newT to_dput dF_int dF_str dF_tup isD_dk isD_dt is_dk_int is_dk_str finIO_nx tv_isX nn_non nn_int nn_str nn_bl nn_tup nn_lst nn_exc tv_fldX to_gone goneQ_nx goneQ_bk goneQ_ct goneQ_rt goneQ_ro tv_sub tv_and' tv_or' tv_gt tv_ge tv_div tv_mod tv_pow tv_shl tv_shr tv_add tv_addS tv_addT tv_mul tv_mulS tv_lt tv_ltS tv_eqI tv_eqS tv_eq tv_notin tv_isN tv_notN tv_ixL tv_ixT tv_ixV tv_ixS tv_lenS tv_lenL tv_lenT tv_is tv_asBl tv_max tv_min tv_list tv_cat tv_asSeqL tv_asSeqT tv_asSeqS tv_rng1 tv_rng2 tv_enum tv_zip tv_pn tv_asInt tv_slL startR fin_nx fin_rt finO_ro finT_rd gN gT gsCons gsNil szP cellP List.map_cons List.map_nil List.replicate_succ List.replicate_zero List.cons_append List.nil_append List.append_nil List.getElem?_cons_zero List.getElem?_cons_succ List.set_cons_zero List.set_cons_succ List.length_cons List.length_nil Nat.zero_le true_and and_true Option.some.injEq Sl.sh.injEq Sl.ow.injEq Sl.dp.injEq Res.ok.injEq PV.int.injEq PV.str.injEq PV.bl.injEq PV.lst.injEq PV.tup.injEq exists_eq_left' exists_eq_left exists_eq and_assoc exists_and_left if_true if_false not_true_eq_false not_false_eq_true Bool.false_eq_true Bool.not_true Bool.not_false decide_eq_true_eq Bool.not_eq_true' decide_eq_false_iff_not reduceCtorEq is_non_int is_non_bool is_non_str is_non_list is_non_tuple is_non_dict is_bl_int is_bl_bool is_bl_str is_bl_list is_bl_tuple is_bl_dict is_int_int is_int_bool is_int_str is_int_list is_int_tuple is_int_dict is_str_int is_str_bool is_str_str is_str_list is_str_tuple is_str_dict is_tup_int is_tup_bool is_tup_str is_tup_list is_tup_tuple is_tup_dict is_lst_int is_lst_bool is_lst_str is_lst_list is_lst_tuple is_lst_dict Int.reduceAdd Int.reduceSub Int.reduceMul Int.reduceNeg Int.reduceToNat atI_0 atI_1 atI_2 atI_3 snocI snocS snocC eqF_int eqF_str eqF_bl frR shOnly".splitOn " ").toArray.map λs=>Lean.mkIdent s.toName
 `(tactic| simp(maxSteps:=2000000) only[$[$ids:ident],*])
structure Sz(w h:Int):Prop where
 w0:1<=w
 w1:w<=24
 h0:1<=h
 h1:h<=24
theorem Sz.mul{w h:Int}(s:Sz w h):1<=w*h/\w*h<=576:=by
 obtain⟨a,b,c,d⟩:=s;have e1:1*1<=w*h:=Int.mul_le_mul a c (by decide) (by lia)
 have e2:w*h<=24*24:=Int.mul_le_mul b d (by lia) (by decide)
 lia
theorem Sz.at{w h c r:Int}(_:Sz w h)(c0:0<=c)(c1:c<w)(r0:0<=r)(r1:r<h):0<=r*w+c/\r*w+c<w*h:=by
 have e1:0<=r*w:=Int.mul_nonneg r0 (by lia)
 have e2:(r+1)*w<=h*w:=Int.mul_le_mul_of_nonneg_right (by lia) (by lia)
 rw[Int.add_mul,Int.one_mul] at e2;rw[Int.mul_comm w h];lia
theorem Sz.nat{w h:Int}(s:Sz w h):w.toNat*h.toNat=(w*h).toNat/\w.toNat*h.toNat<=576:=by
 have hm:=s.mul;obtain⟨a,b,c,d⟩:=s;obtain⟨x,rfl⟩:=Zbu (show 0<=w by omega)
 obtain⟨y,rfl⟩:=Zbu (show 0<=h by omega)
 have e:(x:Int)*(y:Int)=((x*y:Nat):Int):=by simp
 rw[e] at hm ⊢;simp only[ZaQ];have h2:((x*y:Nat):Int)<=((576:Nat):Int):=hm.2;exact⟨trivial,Int.ofNat_le.mp h2⟩
structure Cell(w h c r:Int):Prop where
 c0:0<=c
 c1:c<w
 r0:0<=r
 r1:r<h
theorem Cell.of{w h:Int}{c:Int×Int}(z:Mth.InR w.toNat h.toNat c):Cell w h c.1 c.2:=⟨z.c0,by have:=z.c1;have:=z.c0;lia,z.r0,by have:=z.r1;have:=z.r0;lia⟩
theorem Cell.pl{w h c r:Int}(z:Cell w h c r):(r*w+c).toNat=Mth.pl w.toNat (c,r)/\0<=r*w+c:=by
 obtain⟨c0,c1,r0,r1⟩:=z;obtain⟨a,rfl⟩:=Zbu c0;obtain⟨b,rfl⟩:=Zbu r0;obtain⟨v,rfl⟩:=Zbu (show 0<=w by omega)
 unfold Mth.pl;simp only[ZaQ];have e:(b:Int)*(v:Int)+(a:Int)=((b*v+a:Nat):Int):=by simp
 rw[e,ZaQ];exact⟨rfl,Zbr _⟩
theorem HN{w:Int}(hw:1<=w)(i:Nat):Mth.cellOf w.toNat i=((0+(i:Int))%w,(0+(i:Int))/w):=by
 obtain⟨v,rfl⟩:=Zbu (show 0<=w by omega)
 unfold Mth.cellOf;simp
theorem Le(a b:Nat):Builtin.bitOr (a:Int) (b:Int)=((a ||| b:Nat):Int):=by
 have n1:∀ x:Nat,¬0<=Builtin.bitNot (x:Int):=λx=>by unfold Builtin.bitNot;omega
 unfold Builtin.bitOr;rw[bitAnd_nn (n1 a) (n1 b),bitNot_bitNot,bitNot_bitNot,bitNot_bitNot,ZaQ,ZaQ]
theorem JG(n p:Nat):decide (Builtin.bitAnd ((n:Int)/2^p) 1=1)=n.testBit p:=by
 have e:(n:Int)/2^p=((n/2^p:Nat):Int):=by simp
 rw[e,bitAnd_pp (Zbr _) (by decide),ZaQ,show(1:Int).toNat=1 from rfl,Mth.QJ]
 cases n.testBit p<;>rfl
theorem rW{lo:Int}{n i:Nat}{x:PV}(h:(mW lo n)[i]?=some x):i<n/\x=.int (lo+(i:Int)):=by
 have hi:i<n:=by simpa[mW] using cz h
 unfold mW at h;rw[List.getElem?_map,Zbm hi] at h;exact⟨hi,(Zab h).symm⟩
theorem Sq{lo:Int}{n:Nat}{x:PV}(h:x∈mW lo n):∃ i:Nat,i<n/\x=.int (lo+(i:Int)):=by
 unfold mW at h;obtain⟨i,hi,e⟩:=Zas.mp h;exact⟨i,ZaA.mp hi,e.symm⟩
theorem take_snoc{α:Type}{l:List α}{i:Nat}{x:α}(h:l[i]?=some x):l.take (i+1)=l.take i++[x]:=by
 rw[List.take_succ,h];rfl
theorem Ez{w h c r:Int}(sz:Sz w h)(cl:Cell w h c r):gG [.tup [.int w,.int h],.tup [.int c,.int r]]=some (.ok (.int (r*w+c))):=by
 refine jo ?_;unfold p6;walk_at "rd"
 have:=cl.r0;have:=cl.r1;have:=sz.h1;exact .inl ⟨by lia,by lia⟩
theorem O9{w h c r:Int}(sz:Sz w h)(cl:Cell w h c r)(n:Nat):gH [.tup [.int w,.int h],.int n,.tup [.int c,.int r]]=some (.ok (.bl (n.testBit (Mth.pl w.toNat (c,r))))):=by
 refine jo ?_;unfold p7;walk_at "rd"
 obtain⟨e1,e2⟩:=cl.pl;rw[Ez sz cl];walk_at "rd"
 rw[e1,JG];exact⟨e2,rfl⟩
theorem Bt{w h:Int}(sz:Sz w h):jF [.tup [.int w,.int h]]=some (.ok (.lst ((Mth.pick w.toNat (w.toNat*h.toNat) λ_=>true).map cellP))):=by
 refine uW ?_;unfold m8;walk_at "rd"
 have hm:=sz.mul;have hn:=sz.nat;have w0:=sz.w0;have w1:=sz.w1;refine⟨.inl ⟨by lia,by lia⟩,by lia,by lia,by rw[dX];exact ZaM (yE (by lia)),?_⟩
 rw[Xo (λx=>match x with|.int i=>cellP (i%w,i/w)|_=>.non)]
 ·walk_at "rd"
  rw[<-hn.1];unfold mW Mth.pick;rw[List.map_map,List.map_map,ZbQ.mpr λ_ _=>rfl];refine Za4 λi _=>?_;show _=cellP (Mth.cellOf w.toNat i)
  rw[HN w0];rfl
 ·intro x hx;obtain⟨i,hi,rfl⟩:=Sq hx;walk_at "rd"
  exact⟨by lia,by lia,by lia,by decide⟩
theorem Lf{w h:Int}(sz:Sz w h)(ps:List (Int×Int))(hc:∀ c∈ps,Cell w h c.1 c.2):rM [.tup [.int w,.int h],.lst (ps.map cellP)]=some (.ok (.int (Mth.Kc w.toNat ps))):=by
 refine jo ?_;unfold wW;walk_at "rd"
 refine dF (λi ρ=>∃ v,ρ=[some (.sh (.tup [.int w,.int h])),some (.sh (.lst (ps.map cellP))),some (.sh (.int (Mth.Kc w.toNat (ps.take i)))),v]) ⟨none,rfl⟩ ?_ ?_
 ·rintro i x ρ hx ⟨v,rfl⟩;rw[List.getElem?_map] at hx;cases hd:ps[i]? with
  |none=>rw[hd] at hx;cases hx
  |some d=>
   rw[hd] at hx;cases hx;have cl:=hc d (Zal hd);obtain⟨e1,e2⟩:=cl.pl;have hm:=sz.mul;have ha:=sz.at cl.c0 cl.c1 cl.r0 cl.r1;unfold wU;walk_at "rd"
   rw[Ez sz cl];walk_at "rd"
   have e3:(1:Int)*2^Mth.pl w.toNat (d.1,d.2)=((2^Mth.pl w.toNat d:Nat):Int):=by simp
   rw[e1,e3,Le,take_snoc hd,Mth.Kd];exact⟨by lia,by lia,by decide,_,rfl⟩
 ·rintro ρ ⟨v,rfl⟩;unfold wV;walk_at "rd"
  rw[Zba (by simp)]
theorem jM{w h:Int}(sz:Sz w h)(n:Nat):fJ [.tup [.int w,.int h],.int n]=some (.ok (.lst ((Mth.pick w.toNat (w.toNat*h.toNat) λi=>n.testBit i).map cellP))):=by
 refine uW ?_;unfold p8;walk_at "rd"
 rw[Bt sz];walk_at "rd"
 have hn:=sz.nat;refine⟨by rw[List.length_map];exact ZaF (Mth.jY _ _ _) (ZaM (yE (by lia))),?_⟩
 rw[Xp (λx=>match x with|.tup [.int c,.int r]=>n.testBit (Mth.pl w.toNat (c,r))|_=>false) id]
 ·walk_at "rd"
  rw[List.map_id];unfold Mth.pick;rw[ZbQ.mpr λ_ _=>rfl,List.map_map,List.filter_map,List.map_map];congr 1
  refine List.filter_congr λi hi=>?_;show n.testBit (Mth.pl w.toNat ((Mth.cellOf w.toNat i).1,(Mth.cellOf w.toNat i).2))=_
  rw[show Mth.pl w.toNat ((Mth.cellOf w.toNat i).1,(Mth.cellOf w.toNat i).2)=i from Mth.yF _ _]
 ·intro x hx;obtain⟨c,hc,rfl⟩:=Zas.mp hx;unfold Mth.pick at hc;obtain⟨i,hi,rfl⟩:=Zas.mp hc;have hi:i<w.toNat*h.toNat:=by simpa using hi
  have cl:=Cell.of (Mth.yG hi);walk_at "rd"
  rw[O9 sz cl];walk_at "rd"
 ·intro x hx _;walk_at "rd"
  rfl
theorem EY{f:PV->PV->Option Bool}:∀ {l:List PV},(∀ x∈l,f x x=some true)->eqL f l l=some true
 |[],_=>rfl
 |x::xs,h=>by rw[eqL,h x List.mem_cons_self,EY λy hy=>h y (List.mem_cons_of_mem _ hy)];rfl
theorem Pb{n:Nat}{l:List PV}(h:∀ x∈l,eqF n x x=some true):eqF (n+1) (.tup l) (.tup l)=some true:=by
 exact EY h
theorem Fb(n:Nat)(z:Int):eqF n (.int z) (.int z)=some true:=by rw[eqF_int,ZaB rfl]
theorem Bu{α:Type}{j:Nat}{el:Fn PV}{ρb:Rho}(g f:α->PV):∀ (l:List α),(∀ a∈l,Tv (el (ρb.set j (some (.sh (g a))))) λp=>p=f a)->dJ (gN j) uv el ρb (l.map g)=some (.ok (l.map f))
 |[],_=>rfl
 |a::l,h=>by
  have e1:=jE (h a List.mem_cons_self);have ih:=Bu g f l λb hb=>h b (List.mem_cons_of_mem _ hb);rw[Zan,dJ];simp only[gN,uv,bnd,ZbI,e1,ih,Zan]
def kJ(row:Bool):Str:=if row then Str.ofString "row" else Str.ofString "column"
def Fd(row:Bool)(l f t:Int):PV:=.tup [.str (kJ row),.int l,.int f,.int t]
def fK(row:Bool)(l:Int)(p:Int):Int×Int:=if row then(p,l) else(l,p)
def gb(row:Bool)(l f t:Int):List (Int×Int):=(List.range (t+1-f).toNat).map λ(i:Nat)=>fK row l (f+(i:Int))
theorem Pg(w h:Int)(row:Bool):lK [.tup [.int w,.int h],.str (kJ row)]=some (.ok (.int (if row then h else w))):=by
 refine jo (x:=lJ (startR [.tup [.int w,.int h],.str (kJ row)] 0)) ?_;unfold lJ;walk_at "rd"
 cases row
 ·rw[Zae (by decide +kernel)];rfl
 ·rw[Zag (by rfl)];rfl
theorem Lg(w h:Int)(row:Bool):jH [.tup [.int w,.int h],.str (kJ row)]=some (.ok (.int (if row then w else h))):=by
 refine jo (x:=jG (startR [.tup [.int w,.int h],.str (kJ row)] 0)) ?_;unfold jG;walk_at "rd"
 cases row
 ·rw[Zae (by decide +kernel)];rfl
 ·rw[Zag (by rfl)];rfl
theorem zB{row:Bool}{l f t:Int}(f0:0<=f)(ft:f<=t)(t1:t<=1000):dq [Fd row l f t]=some (.ok (.lst ((gb row l f t).map cellP))):=by
 refine uW (x:=fX (startR [Fd row l f t] 0)) ?_;unfold fX Fd;walk_at "rd"
 have key:mW f (t+1-f).toNat=(List.range (t+1-f).toNat).map λi=>PV.int (f+((i:Nat):Int)):=rfl;have len:((List.range (t+1-f).toNat).map λi=>PV.int (f+((i:Nat):Int))).length<=sizeLine:=by
  rw[List.length_map,List.length_range];exact ZaF (show _<=1001 by lia) (by decide)
 by_cases hr:row=true
 ·subst hr;rw[Zag (by rfl)]
  unfold kj;walk_at "rd"
  rw[key];refine⟨by lia,by lia,by lia,by lia,len,?_⟩
  rw[Bu (λi=>PV.int (f+((i:Nat):Int))) (λi=>cellP (fK true l (f+((i:Nat):Int)))) _ λi _=>?_]
  ·walk_at "rd"
   unfold gb;rw[List.map_map];rfl
  ·walk_at "rd"
   exact⟨by decide,rfl⟩
 ·have hr:row=false:=by simpa using hr
  subst hr;rw[Zae (by decide +kernel)]
  unfold kE;walk_at "rd"
  rw[key];refine⟨by lia,by lia,by lia,by lia,len,?_⟩
  rw[Bu (λi=>PV.int (f+((i:Nat):Int))) (λi=>cellP (fK false l (f+((i:Nat):Int)))) _ λi _=>?_]
  ·walk_at "rd"
   unfold gb;rw[List.map_map];rfl
  ·walk_at "rd"
   exact⟨by decide,rfl⟩
theorem cJ:∀ {l k:List Nat},l.Nodup->(∀ x∈l,x∈k)->l.length<=k.length
 |[],k,_,_=>Zbb _
 |a::l,k,nd,h=>by
  have ha:a∈k:=h a List.mem_cons_self;have nd':=Zbv.mp nd;have:=cJ (l:=l) (k:=k.erase a) nd'.2 λx hx=>(List.mem_erase_of_ne (λe:x=a=>nd'.1 (by rw[<-e];exact hx))).mpr (h x (List.mem_cons_of_mem _ hx))
  rw[List.length_erase_of_mem ha] at this;have:0<k.length:=List.length_pos_of_mem ha;simp only[Zaz];lia
def lk:List (Nat×Nat)->Nat->Option Nat
 |[],_=>none
 |p::l,k=>if p.1=k then some p.2 else lk l k
def ptN:List (Nat×Nat)->Nat->Nat->List (Nat×Nat)
 |[],k,v=>[(k,v)]
 |p::l,k,v=>if p.1=k then(k,v)::l else p::ptN l k v
theorem gB(k v j:Nat):∀ l,lk (ptN l k v) j=if j=k then some v else lk l j
 |[]=>by
  unfold ptN lk lk;by_cases h:j=k
  ·rw[Zag h,Zag h.symm]
  ·rw[Zae h,Zae (ZaX h)]
 |p::l=>by
  unfold ptN;by_cases h:p.1=k
  ·rw[Zag h];unfold lk;by_cases hj:j=k
   ·rw[Zag hj,Zag hj.symm]
   ·rw[Zae hj,Zae (ZaX hj),Zae (λe=>hj (e.symm.trans h))]
  ·rw[Zae h];unfold lk;rw[gB k v j l];by_cases hj:j=k
   ·rw[Zag hj,Zae (λe=>h (e.trans hj)),Zag hj]
   ·simp only[Zae hj]
theorem Ph(k v:Nat):∀ l,lk l k=none->ptN l k v=l++[(k,v)]
 |[],_=>rfl
 |p::l,h=>by
  unfold lk at h;split at h
  ·cases h
  ·rename_i hp;unfold ptN;rw[Zae hp,Ph k v l h];rfl
theorem lN{k:Nat}:∀ {l},lk l k=none↔k ∉ l.map (·.1)
 |[]=>by simp[lk]
 |p::l=>by
  unfold lk;by_cases h:p.1=k
  ·simp[h]
  ·rw[Zae h,lN];simp[ZaX h]
theorem Bv{k v:Nat}:∀ {l},lk l k=some v->(k,v)∈l
 |p::l,h=>by
  unfold lk at h;split at h
  ·rename_i hp;cases h;subst hp;exact List.mem_cons_self
  ·exact List.mem_cons_of_mem _ (Bv h)
theorem xn{k v:Nat}:∀ {l:List (Nat×Nat)},(l.map (·.1)).Nodup->(k,v)∈l->lk l k=some v
 |p::l,nd,h=>by
  rw[Zan,Zbv] at nd;unfold lk;rcases Zaw.mp h with e|h
  ·subst e;rw[Zag rfl]
  ·rw[Zae λe=>nd.1 (by rw[e];exact Zas.mpr ⟨_,h,rfl⟩)];exact xn nd.2 h
theorem uX(k v:Nat):∀ l,(ptN l k v).map (·.1)=if lk l k=none then l.map (·.1)++[k] else l.map (·.1)
 |[]=>rfl
 |p::l=>by
  unfold ptN lk;by_cases h:p.1=k
  ·rw[Zag h,Zag h];simp[h]
  ·rw[Zae h,Zae h,Zan,uX k v l];split<;>simp
theorem V2(k v:Nat)(l:List (Nat×Nat)):(ptN l k v).length<=l.length+1:=by
 have:=Zbd List.length (uX k v l);rw[List.length_map] at this;rw[this];split<;>simp
def kvQ{κ:Type}(fk:Nat->κ)(fv:Nat->PV)(l:List (Nat×Nat)):List (κ×PV):=l.map λp=>(fk p.1,fv p.2)
theorem xq{κ:Type}[DecidableEq κ]{fk:Nat->κ}{fv:Nat->PV}(inj:∀ a b,fk a=fk b->a=b)(k:Nat):∀ l,cQ (kvQ fk fv l) (fk k)=(lk l k).map fv
 |[]=>rfl
 |p::l=>by
  show cQ ((fk p.1,fv p.2)::kvQ fk fv l) _=_
  unfold cQ lk;by_cases h:p.1=k
  ·subst h;rw[Zag rfl,Zag rfl];rfl
  ·rw[Zae (λe=>h (inj _ _ e)),Zae h];exact xq inj k l
theorem xr{κ:Type}[DecidableEq κ]{fk:Nat->κ}{fv:Nat->PV}(inj:∀ a b,fk a=fk b->a=b)(k v:Nat):∀ {l:List (Nat×Nat)},(l.map (·.1)).Nodup->ir (kvQ fk fv l) (fk k) (fv v)=kvQ fk fv (ptN l k v)
 |[],_=>rfl
 |p::l,nd=>by
  rw[Zan,Zbv] at nd;show ir ((fk p.1,fv p.2)::kvQ fk fv l) _ _=_
  unfold ir ptN;by_cases h:p.1=k
  ·subst h;have:((kvQ fk fv l).any λe=>decide (e.1=fk p.1))=false:=by
    rw[List.any_eq_false];intro x hx;obtain⟨q,hq,rfl⟩:=Zas.mp hx;simp only[decide_eq_true_eq];exact λe=>nd.1 (by rw[<-inj _ _ e];exact Zas.mpr ⟨q,hq,rfl⟩)
   rw[Zag rfl,Zag rfl,this];rfl
  ·rw[Zae (λe=>h (inj _ _ e)),Zae h,xr inj k v nd.2];rfl
theorem JH{κ:Type}{fk:Nat->κ}{fv:Nat->PV}(l:List (Nat×Nat)):(kvQ fk fv l).length=l.length:=by simp[kvQ]
theorem xu{k:Nat}(h:k<=100000):k<sizeLine:=by rw[sizeLine_eq];lia
theorem Fe(ns:List Int):dY (ns.map PV.int)=some (ns.map .inl):=by
 induction ns with
 |nil=>rfl
 |cons n ns ih=>rw[Zan];unfold dY;rw[ih];rfl
theorem tM(p:Sk):dY (.str p.1::p.2.map PV.int)=some (skK p):=by
 unfold dY;rw[Fe];rfl
theorem uY{p q:Sk}(e:skK p=skK q):p=q:=by
 unfold skK at e;rw[Zbw] at e;refine Prod.ext (Sum.inr.inj e.1) ((List.map_inj_right λ_ _ h=>Sum.inl.inj h).mp e.2)
theorem xx(p:Sk):(skP p).still=true:=by
 show(PV.str p.1::p.2.map PV.int).all (pL 4)=true
 rw[Za6];intro x hx;rcases Zaw.mp hx with e|hx
 ·rw[e];rfl
 ·obtain⟨n,_,rfl⟩:=Zas.mp hx;rfl
theorem Pj{l:List (List Key×PV)}{p:Sk}:eV (.dt l) (skP p)=some (cQ l (skK p)):=by
 show(dY (.str p.1::p.2.map PV.int)).map (cQ l)=_
 rw[tM];rfl
theorem Uc{l:List (List Key×PV)}{p:Sk}{q:PV}(h:l.length<sizeLine):Hh (.dt l) (skP p) q=some (.dt (ir l (skK p) q)):=by
 show(match dY (.str p.1::p.2.map PV.int) with
  |some k=>if l.length<sizeLine then some (PV.dt (ir l k q)) else none
  |none=>none)=_
 rw[tM];exact Zag h
structure Gs where
 aS:Nat->Sk
 gS:Nat->Sk
 ia:∀ a b,aS a=aS b->a=b
 ig:∀ a b,gS a=gS b->a=b
 la:∀ a,(aS a).2.length=3
 lg:∀ a,(gS a).2.length=3
def Gs.av(G:Gs)(a:Nat):PV:=skP (G.aS a)
def Gs.gv(G:Gs)(a:Nat):PV:=skP (G.gS a)
def Gs.aK(G:Gs)(a:Nat):List Key:=skK (G.aS a)
def Gs.gK(G:Gs)(a:Nat):List Key:=skK (G.gS a)
def Gs.GA(G:Gs)(l:List (Nat×Nat)):PV:=.dt (kvQ G.aK G.gv l)
def Gs.GD(G:Gs)(l:List (Nat×Nat)):PV:=.dt (kvQ G.gK G.av l)
def Gs.AL(G:Gs)(l:List Nat):List PV:=l.map G.av
def Gs.GL(G:Gs)(l:List Nat):List PV:=l.map G.gv
section
variable(G:Gs)
theorem Gs.aKi(a b:Nat)(e:G.aK a=G.aK b):a=b:=G.ia _ _ (uY e)
theorem Gs.gKi(a b:Nat)(e:G.gK a=G.gK b):a=b:=G.ig _ _ (uY e)
theorem Gs.still(g:Nat):(G.gv g).still=true:=xx _
theorem Gs.Pk(a:Nat):(G.av a).still=true:=xx _
theorem Gs.nn(g:Nat):(G.gv g).jj=false:=rfl
theorem Gs.isD(l:List (Nat×Nat)):(G.GD l).isD=true:=rfl
theorem Gs.sh(l:List (Nat×Nat)):PV.lC (G.GD l)=true:=Za6.mpr λp hp=>by
 obtain⟨n,_,rfl⟩:=Zas.mp hp;exact G.Pk _
theorem Gs.shA(l:List Nat):PV.lC (.lst (G.AL l))=true:=Za6.mpr λp hp=>by
 obtain⟨n,_,rfl⟩:=Zas.mp hp;exact G.Pk _
theorem Gs.find(l:List (Nat×Nat))(g:Nat):eV (G.GD l) (G.gv g)=some ((lk l g).map G.av):=Pj.trans (Zbd some (xq G.gKi g l))
theorem Gs.Ud(l:List (Nat×Nat))(a:Nat):eV (G.GA l) (G.av a)=some ((lk l a).map G.gv):=Pj.trans (Zbd some (xq G.aKi a l))
theorem Gs.put(l:List (Nat×Nat))(g a:Nat)(nd:(l.map (·.1)).Nodup)(h:l.length<sizeLine):Hh (G.GD l) (G.gv g) (G.av a)=some (G.GD (ptN l g a)):=
 (Uc (by rw[JH];exact h)).trans (Zbd (λz=>some (PV.dt z)) (xr G.gKi g a nd))
theorem Gs.Yk{l:List (Nat×Nat)}{a g:Nat}(nd:(l.map (·.1)).Nodup)(h:l.length<sizeLine):Hh (G.GA l) (G.av a) (G.gv g)=some (G.GA (ptN l a g)):=
 (Uc (by rw[JH];exact h)).trans (Zbd (λz=>some (PV.dt z)) (xr G.aKi a g nd))
end
def wiP(G:Gs)(n:Nat)(W:Nat->List Nat):PV:=.dt ((List.range n).map λ(i:Nat)=>(G.aK i,PV.lst (G.GL (W i))))
theorem xF{G:Gs}{f:Nat->PV}{k:Nat}:∀ {l:List Nat},k∈l->cQ (l.map λ(i:Nat)=>(G.aK i,f i)) (G.aK k)=some (f k)
 |i::l,h=>by
  rw[Zan];unfold cQ;by_cases e:i=k
  ·subst e;rw[Zag rfl]
  ·rw[Zae (λz=>e (G.aKi _ _ z))];exact xF ((Zaw.mp h).resolve_left (ZaX e))
theorem Xu{G:Gs}{n k:Nat}{W:Nat->List Nat}(h:k<n):eV (wiP G n W) (G.av k)=some (some (.lst (G.GL (W k)))):=
 Pj.trans (Zbd some (xF (f:=λi=>.lst (G.GL (W i))) (ZaA.mpr h)))
structure Wk(n:Nat)(W:Nat->List Nat)(B:List (Nat×Nat))(S R:List Nat)(cb:List (Nat×Nat)):Prop where
 eq:R=S++cb.map λp=>(lk B p.1).getD 0
 pr:∀ p∈cb,lk B p.1≠none
 nd:(cb.map (·.1)).Nodup
 wish:∀ p∈cb,p.1∈W p.2
 back:∀ (k:Nat) p,cb[k]?=some p->∃ i,i<S.length+k/\R[i]?=some p.2
 lt:∀ a∈R,a<n
section
variable{n:Nat}{W:Nat->List Nat}{B:List (Nat×Nat)}{S R:List Nat}{cb:List (Nat×Nat)}
theorem Wk.len(h:Wk n W B S R cb):R.length=S.length+cb.length:=by rw[h.eq];simp
theorem Wk.xG{N:Nat}(h:Wk n W B S R cb)(wl:∀ i g,g∈W i->g<N):cb.length<=N:=by
 have:=cJ (l:=cb.map (·.1)) (k:=List.range N) h.nd λx hx=>by
  obtain⟨p,hp,rfl⟩:=Zas.mp hx;exact ZaA.mpr (wl _ _ (h.wish p hp))
 simpa using this
theorem Wk.start(h:∀ a∈S,a<n):Wk n W B S S []:=⟨by simp,λp h=>by simp at h,by simp,λp h=>by simp at h,λk p e=>by simp at e,h⟩
theorem Wk.more(h:Wk n W B S R cb){a g b i:Nat}(ha:R[i]?=some a)(hg:g∈W a)(hn:lk cb g=none)(hb:lk B g=some b)(bl:b<n):Wk n W B S (R++[b]) (cb++[(g,a)]) where
 eq:=by rw[Zbc,Zan,List.map_nil,hb,<-Zax,<-h.eq];rfl
 pr:=λp hp=>by
  rcases Zah.mp hp with hp|hp
  ·exact h.pr p hp
  ·simp at hp;subst hp;rw[hb];simp
 nd:=by
  rw[Zbc,ZbC];refine⟨h.nd,by simp,λx hx y hy=>?_⟩
  simp at hy;subst hy;exact λe=>lN.mp hn (e▸hx)
 wish:=λp hp=>by
  rcases Zah.mp hp with hp|hp
  ·exact h.wish p hp
  ·simp at hp;subst hp;exact hg
 back:=λk p e=>by
  have hl:=h.len;by_cases hk:k<cb.length
  ·rw[Zaj hk] at e;obtain⟨j,h1,h2⟩:=h.back k p e;refine⟨j,h1,?_⟩;rw[Zaj (by omega)];exact h2
  ·rw[Zau (by omega)] at e
   have:k=cb.length:=by
    rcases Nat.lt_or_ge (k-cb.length) 1 with q|q
    ·omega
    ·rw[ZaL (by simpa using q)] at e;cases e
   subst this;simp at e;subst e;have hi:i<R.length:=(Zac.mp ha).1;exact⟨i,by omega,by rw[Zaj hi];exact ha⟩
 lt:=λx hx=>by
  rcases Zah.mp hx with hx|hx
  ·exact h.lt x hx
  ·simp at hx;subst hx;exact bl
end
def gvP(G:Gs):Option Nat->PV
 |none=>.non
 |some g=>G.gv g
def Xv(n:Nat)(W:Nat->List Nat)(B:List (Nat×Nat))(S:List Nat)(g:Option Nat)(R:List Nat)(cb:List (Nat×Nat)):Prop:=
 match g with
 |none=>Wk n W B S R cb/\∀ a∈R,∀ x∈W a,x∈cb.map (·.1)
 |some g=>∃ (cb':List (Nat×Nat)) (a i:Nat),cb=cb'++[(g,a)]/\Wk n W B S R cb'/\R[i]?=some a/\g∈W a/\lk cb' g=none/\lk B g=none
theorem V3{G:Gs}{l:List Nat}{i:Nat}{x:PV}(h:(G.AL l)[i]?=some x):∃ g,l[i]?=some g/\x=G.av g:=by
 unfold Gs.AL at h;rw[List.getElem?_map] at h;cases e:l[i]? with
 |none=>rw[e] at h;cases h
 |some g=>rw[e] at h;cases h;exact⟨g,rfl,rfl⟩
theorem V4{G:Gs}{l:List Nat}{i:Nat}{x:PV}(h:(G.GL l)[i]?=some x):∃ g,l[i]?=some g/\x=G.gv g:=by
 unfold Gs.GL at h;rw[List.getElem?_map] at h;cases e:l[i]? with
 |none=>rw[e] at h;cases h
 |some g=>rw[e] at h;cases h;exact⟨g,rfl,rfl⟩
theorem V5{G:Gs}(l:List Nat)(b:Nat):G.AL l++[G.av b]=G.AL (l++[b]):=by simp[Gs.AL]
theorem V6{G:Gs}{l:List Nat}{i a:Nat}(h:l[i]?=some a):atI (G.AL l) (i:Int)=some (G.av a):=by
 exact nO (by unfold Gs.AL;rw[List.getElem?_map,h];rfl)
inductive WlI(G:Gs)(n:Nat)(W:Nat->List Nat)(B:List (Nat×Nat))(S:List Nat)(k:Nat):Rho->Prop
 |mk (R:List Nat) (cb:List (Nat×Nat)) (pl:Nat) (v6 v7:Option Sl) (hk:k+pl=1999) (hpl:pl<=R.length) (hw:Wk n W B S R cb) (hc:∀ i a,i<pl->R[i]?=some a->∀ x∈W a,x∈cb.map (·.1)):WlI G n W B S k [some (.sh (wiP G n W)),some (.sh (G.GD B)),some (.sh (.lst (G.AL S))),some (.ow (.lst (G.AL R))),some (.ow (G.GD cb)),some (.sh (.int (pl:Int))),v6,v7]
inductive WlJ(G:Gs)(n:Nat)(W:Nat->List Nat)(B:List (Nat×Nat))(S:List Nat)(pl a j:Nat):Rho->Prop
 |mk (R:List Nat) (cb:List (Nat×Nat)) (v7:Option Sl) (ha:R[pl]?=some a) (hw:Wk n W B S R cb) (hc:∀ i a,i<pl->R[i]?=some a->∀ x∈W a,x∈cb.map (·.1)) (hj:∀ i x,i<j->(W a)[i]?=some x->x∈cb.map (·.1)):WlJ G n W B S pl a j [some (.sh (wiP G n W)),some (.sh (G.GD B)),some (.sh (.lst (G.AL S))),some (.ow (.lst (G.AL R))),some (.ow (G.GD cb)),some (.sh (.int (pl:Int))),some (.sh (G.av a)),v7]
theorem zE{G:Gs}{n N:Nat}{W:Nat->List Nat}{B:List (Nat×Nat)}{S:List Nat}(hN:N<=600)(hS:S.length<=600)(sl:∀ a∈S,a<n)(wl:∀ i g,g∈W i->g<N)(bl:∀ g b,lk B g=some b->b<n) :
  ∃ g R cb,jq [wiP G n W,G.GD B,.lst (G.AL S)]=some (.ok (.tup [gvP G g,.lst (G.AL R),G.GD cb]))/\Xv n W B S g R cb:=by
 have big:∀ {k:Nat},k<=9000->k<sizeLine:=λh=>xu (by lia)
 suffices h:∃ p,jq [wiP G n W,G.GD B,.lst (G.AL S)]=some (.ok p)/\∃ g R cb,p=.tup [gvP G g,.lst (G.AL R),G.GD cb]/\Xv n W B S g R cb by
  obtain⟨p,e,g,R,cb,rfl,h⟩:=h;exact⟨g,R,cb,e,h⟩
 refine Jw (um λQS hQ=>?_);unfold xm;rw[show startR [wiP G n W,G.GD B,.lst (G.AL S)] 5=[some (.sh (wiP G n W)),some (.sh (G.GD B)),some (.sh (.lst (G.AL S))),none,none,none,none,none] from rfl];walk_at "rd"
 refine wM (n:=1999) (I:=WlI G n W B S) (.mk S [] 0 none none rfl (Zbb _) (Wk.start sl) λi a h=>absurd h (Nat.not_lt_zero _)) ?_;rintro k _ ⟨R,cb,pl,v6,v7,hk,hpl,hw,hc⟩;have hR:=hw.len;have hcb:=hw.xG wl;walk_at "rd"
 by_cases hlt:(pl:Int)<((G.AL R).length:Int)
 case neg=>
  rw[Zae hlt];have hpl2:pl=R.length:=by simp only[Gs.AL,List.length_map] at hlt;lia
  unfold xg;walk_at "rd"
  refine⟨rfl,G.shA R,G.sh cb,ZaM (big (by lia)),hQ _ ⟨_,rfl,none,R,cb,rfl,hw,λa ha x hx=>?_⟩⟩
  obtain⟨i,hi⟩:=Zby ha;exact hc i a (by rw[hpl2];exact(Zac.mp hi).1) hi x hx
 case pos=>
  rw[Zag hlt];have hp2:pl<R.length:=by simp only[Gs.AL,List.length_map] at hlt;lia
  obtain⟨a,ha⟩:∃ a,R[pl]?=some a:=⟨_,List.getElem?_eq_getElem hp2⟩;have al:a<n:=hw.lt a (Zal ha);refine⟨by lia,Ub λQS2 hN hC _ _ hR2=>?_⟩
  unfold xf;walk_at "rd"
  refine⟨(G.av a),V6 ha,rfl,_,Xu al,?_⟩;rw[tv_asSeqL];refine dF (I:=WlJ G n W B S pl a) (.mk R cb v7 ha hw hc λi x h=>absurd h (Nat.not_lt_zero _)) ?_ ?_
  case refine_2=>
   rintro _ ⟨R,cb,v7,ha,hw,hc,hj⟩;have hR:=hw.len;have hcb:=hw.xG wl;have hp3:pl<R.length:=(Zac.mp ha).1;walk_at "rd"
   unfold w6;walk_at "rd"
   refine hN _ (.mk R cb (pl+1) (some (.sh (G.av a))) v7 (by lia) hp3 hw λi b hi hb x hx=>?_)
   by_cases e:i=pl
   ·subst e;rw[ha] at hb;cases hb;obtain⟨i,hi⟩:=Zby hx;exact hj i x (by simpa[Gs.GL] using(Zac.mp hi).1) hi
   ·exact hc i b (by lia) hb x hx
  rintro j y _ ey ⟨R,cb,v7,ha,hw,hc,hj⟩;refine Ub λQS3 hN3 hC3 _ _ hR3=>?_;obtain⟨g,eg,rfl⟩:=V4 ey;have hR:=hw.len;have hcb:=hw.xG wl;have hg:g∈W a:=Zal eg;unfold w5;walk_at "rd"
  refine⟨G.isD _,_,G.find _ _,?_⟩;cases hk2:lk cb g with
  |some z=>
   rw[ZbD,Option.isSome_some,Zag rfl];refine hC3 _ (.mk R cb _ ha hw hc λi x hi hx=>?_);by_cases e:i=j
   ·subst e;rw[eg] at hx;cases hx;exact Zas.mpr ⟨_,Bv hk2,rfl⟩
   ·exact hj i x (by lia) hx
  |none=>
   rw[Option.map_none,Option.isSome_none,Zae (by decide)]
   unfold wZ;walk_at "rd"
   refine⟨_,G.put _ _ _ hw.nd (big (by lia)),G.isD _,_,G.find _ _,?_⟩
   rw[Ph _ _ _ hk2];cases hb:lk B g with
   |none=>
    rw[Option.map_none,Option.isSome_none,Zag (by decide)]
    unfold wX;walk_at "rd"
    exact⟨G.still g,G.shA R,G.sh _,ZaM (big (by lia)),hR3 _ (hR2 _ (hQ _ ⟨_,rfl,some g,R,_,rfl,cb,a,pl,rfl,hw,ha,hg,hk2,hb⟩))⟩
   |some b=>
    rw[ZbD,Option.isSome_some,Zae (by decide)]
    unfold wY;walk_at "rd"
    have hp3:pl<R.length:=(Zac.mp ha).1;have sub:∀ x,x∈cb.map (·.1)->x∈(cb++[(g,a)]).map (·.1):=λx hx=>by rw[Zbc];exact List.mem_append_left _ hx
    have M:WlJ G n W B S pl a (j+1) _:=.mk (R++[b]) (cb++[(g,a)]) (some (.sh (G.gv g))) (by rw[Zaj hp3];exact ha) (hw.more ha hg hk2 hb (bl g b hb)) (λi c hi hc' x hx=>by
     rw[Zaj (by lia)] at hc'
     exact sub x (hc i c hi hc' x hx)) λi x hi hx=>by
      by_cases e:i=j
      ·subst e;rw[eg] at hx;cases hx;simp
      ·exact sub x (hj i x (by lia) hx)
    rw[<-V5] at M;exact⟨G.isD _,(G.av b),by rw[G.find,hb];rfl,by simp only[Gs.AL,List.length_map];exact big (by lia),hN3 _ M⟩
structure Pm(n:Nat)(W:Nat->List Nat)(A B:List (Nat×Nat)):Prop where
 ndA:(A.map (·.1)).Nodup
 ndB:(B.map (·.1)).Nodup
 iff:∀ a g,lk A a=some g↔lk B g=some a
 ok:∀ {a g},lk A a=some g->g∈W a/\a<n
structure Bk(n:Nat)(W:Nat->List Nat)(B:List (Nat×Nat))(s:Nat)(cb:List (Nat×Nat)):Prop where
 nd:(cb.map (·.1)).Nodup
 wish:∀ p∈cb,p.1∈W p.2
 back:∀ (k:Nat) p,cb[k]?=some p->p.2=s\/∃ (j:Nat) (q:Nat×Nat),j<k/\cb[j]?=some q/\lk B q.1=some p.2
 lt:∀ p∈cb,p.2<n
theorem Wk.bk{n:Nat}{W:Nat->List Nat}{B:List (Nat×Nat)}{s:Nat}{R:List Nat}{cb:List (Nat×Nat)}(h:Wk n W B [s] R cb){g a i:Nat}(ha:R[i]?=some a)(hg:g∈W a)(hn:lk cb g=none):Bk n W B s (cb++[(g,a)]) where
 nd:=by
  rw[Zbc,ZbC];refine⟨h.nd,by simp,λx hx y hy=>?_⟩
  simp at hy;subst hy;exact λe=>lN.mp hn (e▸hx)
 wish:=λp hp=>by
  rcases Zah.mp hp with hp|hp
  ·exact h.wish p hp
  ·simp at hp;subst hp;exact hg
 back:=λk p e=>by
  have hl:=h.len;obtain⟨j,hj,ej⟩:∃ j,j<1+k/\R[j]?=some p.2:=by
   by_cases hk:k<cb.length
   ·rw[Zaj hk] at e;exact h.back k p e
   ·rw[Zau (by lia)] at e
    have:k=cb.length:=by
     rcases Nat.lt_or_ge (k-cb.length) 1 with q|q
     ·lia
     ·rw[ZaL (by simpa using q)] at e;cases e
    subst this;simp at e;subst e;have hi:i<R.length:=(Zac.mp ha).1;exact⟨i,by simp at hl;lia,ha⟩
  have hjR:j<R.length:=(Zac.mp ej).1;rw[h.eq] at ej;cases j with
  |zero=>left;simpa using ej.symm
  |succ j=>
   right
   rw[Zau (by simp)] at ej
   simp only[Zaz,ZbM,Nat.zero_add,Nat.add_sub_cancel,List.getElem?_map] at ej;cases q:cb[j]? with
   |none=>rw[q] at ej;cases ej
   |some p'=>
    rw[q] at ej;have ej:some ((lk B p'.1).getD 0)=some p.2:=ej;have hp':=h.pr p' (Zal q);have jl:j<cb.length:=(Zac.mp q).1;refine⟨j,p',by lia,by rw[Zaj jl];exact q,?_⟩
    cases z:lk B p'.1 with
    |none=>exact absurd z hp'
    |some b=>rw[z] at ej;exact Zbd some (Zab ej)
 lt:=λp hp=>by
  rcases Zah.mp hp with hp|hp
  ·obtain⟨k,hk⟩:=Zby hp;obtain⟨j,_,ej⟩:=h.back k p hk;exact h.lt _ (Zal ej)
  ·simp at hp;subst hp;exact h.lt _ (Zal ha)
structure Jp(n N:Nat)(W:Nat->List Nat)(A0 B0:List (Nat×Nat))(s:Nat)(cb:List (Nat×Nat))(Dd:Nat->Prop)(k x:Nat)(A B:List (Nat×Nat)):Prop where
 ndA:(A.map (·.1)).Nodup
 ndB:(B.map (·.1)).Nodup
 kA:∀ a∈A.map (·.1),a<n
 kB:∀ a∈B.map (·.1),a<N
 old:∀ (i:Nat) p b,i<k->cb[i]?=some p->lk A0 b=some p.1->lk A b=some p.1
 st:lk A s=none
 iff:∀ a g,g≠x->(lk A a=some g↔lk B g=some a)
 no:∀ a,lk A a≠some x
 ok:∀ {a g},lk A a=some g->g∈W a/\a<n
 xd:∀ d,Dd d->lk B0 x≠some d
 bd:∀ g d,Dd d->lk B0 g=some d->lk B g=some d
 more:∀ b,lk A0 b≠none->lk A b≠none
 less:∀ b,lk A b≠none->lk A0 b≠none
def gf(W:Nat->List Nat)(B:List (Nat×Nat))(Dd:Nat->Prop):Prop:=∀ d,Dd d->∀ g∈W d,∃ d',lk B g=some d'/\Dd d'
section
variable{n N:Nat}{W:Nat->List Nat}{A0 B0 A B:List (Nat×Nat)}{s k x a:Nat}{cb:List (Nat×Nat)}{Dd:Nat->Prop}
theorem Ff{l:List (Nat×Nat)}(h:(l.map (·.1)).Nodup)(k v:Nat):((ptN l k v).map (·.1)).Nodup:=by
 rw[uX];split
 ·rename_i e;rw[ZbC];refine⟨h,by simp,λx hx y hy=>?_⟩
  simp at hy;subst hy;exact λz=>lN.mp e (z▸hx)
 ·exact h
theorem JK{l:List (Nat×Nat)}{k v n:Nat}(h:∀ a∈l.map (·.1),a<n)(hk:k<n):∀ a∈(ptN l k v).map (·.1),a<n:=by
 rw[uX];split
 ·intro a ha;rcases Zah.mp ha with ha|ha
  ·exact h a ha
  ·simp at ha;subst ha;exact hk
 ·exact h
theorem nJ{l:List (Nat×Nat)}{n:Nat}(nd:(l.map (·.1)).Nodup)(h:∀ a∈l.map (·.1),a<n):l.length<=n:=by
 have:=cJ (l:=l.map (·.1)) (k:=List.range n) nd λx hx=>ZaA.mpr (h x hx);simpa using this
theorem Jp.last(P:Pm n W A0 B0)(b:Bk n W B0 s cb)(c:gf W B0 Dd)(j:Jp n N W A0 B0 s cb Dd k x A B)(e:cb[k]?=some (x,a))(hl:lk A a=none):Pm n W (ptN A a x) (ptN B x a)/\lk (ptN A a x) s≠none/\(∀ b,lk A0 b≠none->lk (ptN A a x) b≠none)/\(∀ b,lk (ptN A a x) b≠none->b=s\/lk A0 b≠none)/\gf W (ptN B x a) Dd:=by
 have xa:x∈W a:=b.wish _ (Zal e);have as:a=s:=by
  rcases b.back k _ e with h|⟨i,q,hi,eq,hq⟩
  ·exact h
  ·exact absurd hl (j.more a (by rw[(P.iff _ _).mpr hq];simp))
 refine⟨⟨Ff j.ndA _ _,Ff j.ndB _ _,λb' g=>?_,λ{b' g} h=>?_⟩,by rw[gB,Zag as.symm];simp,λb' hb=>?_,λb' hb=>?_,λd hd g hg=>?_⟩
 ·rw[gB,gB];by_cases hb:b'=a
  ·subst hb;rw[Zag rfl];by_cases hx:g=x
   ·subst hx;simp
   ·rw[Zae hx];refine⟨λz=>absurd (Zab z).symm hx,λz=>?_⟩;rw[(j.iff _ _ hx).mpr z] at hl;cases hl
  ·rw[Zae hb];by_cases hx:g=x
   ·subst hx;rw[Zag rfl];exact⟨λz=>absurd z (j.no b'),λz=>absurd (Zab z).symm hb⟩
   ·rw[Zae hx];exact j.iff _ _ hx
 ·rw[gB] at h;split at h
  ·rename_i hb;cases h;subst hb;exact⟨xa,b.lt _ (Zal e)⟩
  ·exact j.ok h
 ·rw[gB];split
  ·simp
  ·exact j.more b' hb
 ·rw[gB] at hb;split at hb
  ·rename_i e';exact .inl (e'.trans as)
  ·exact .inr (j.less b' hb)
 ·obtain⟨d',h1,h2⟩:=c d hd g hg;refine⟨d',?_,h2⟩;rw[gB,Zae λz=>by subst z;exact j.xd d' h2 h1]
  exact j.bd g d' h2 h1
theorem Jp.step(P:Pm n W A0 B0)(wl:∀ i g,g∈W i->g<N)(b:Bk n W B0 s cb)(c:gf W B0 Dd)(j:Jp n N W A0 B0 s cb Dd k x A B)(e:cb[k]?=some (x,a)){y:Nat}(hl:lk A a=some y):∃ k2 a2,k2<k/\cb[k2]?=some (y,a2)/\Jp n N W A0 B0 s cb Dd k2 y (ptN A a x) (ptN B x a):=by
 have xa:x∈W a:=b.wish _ (Zal e);have an:a<n:=b.lt _ (Zal e);have sa:s≠a:=λz=>by subst z;rw[j.st] at hl;cases hl
 obtain⟨i,q,hi,eq,hq⟩:=(b.back k _ e).resolve_left (ZaX sa);have hA0:=(P.iff _ _).mpr hq;have yq:y=q.1:=by have:=j.old i q a hi eq hA0;rw[hl] at this;exact Zab this
 subst yq;have nx:∀ (i':Nat) p,i'<k->cb[i']?=some p->p.1≠x:=λi' p h1 h2 z=>by
  have e1:(cb.map (·.1))[i']?=some x:=by rw[List.getElem?_map,h2];exact Zbd some z
  have e2:(cb.map (·.1))[k]?=some x:=by rw[List.getElem?_map,e];rfl
  have l1:i'<(cb.map (·.1)).length:=(Zac.mp e1).1;have:=(List.getElem?_inj l1 b.nd).mp (e1.trans e2.symm);lia
 have da:¬Dd a:=λhd=>by
  obtain⟨d',h1,h2⟩:=c a hd x xa;exact j.xd d' h2 h1
 have ny:=nx i q hi eq;refine⟨i,q.2,hi,eq,Ff j.ndA _ _,Ff j.ndB _ _,JK j.kA an,JK j.kB (wl _ _ xa),λi' p b' h1 h2 h3=>?_,by rw[gB,Zae sa];exact j.st,λb' g hg=>?_,λb'=>?_,λ{b' g} h=>?_,λd hd z=>?_,λg d hd z=>?_,λb' hb'=>?_,λb' hb'=>?_⟩
 ·rw[gB,Zae λz=>?_]
  ·exact j.old i' p b' (by lia) h2 h3
  ·subst z;rw[hA0] at h3;have z:q.1=p.1:=Zab h3;have e1:(cb.map (·.1))[i']?=some q.1:=by rw[List.getElem?_map,h2];exact Zbd some z.symm
   have e2:(cb.map (·.1))[i]?=some q.1:=by rw[List.getElem?_map,eq];rfl
   have l1:i'<(cb.map (·.1)).length:=(Zac.mp e1).1;have:=(List.getElem?_inj l1 b.nd).mp (e1.trans e2.symm);lia
 ·rw[gB,gB];by_cases hb:b'=a
  ·subst hb;rw[Zag rfl];by_cases hx:g=x
   ·subst hx;simp
   ·rw[Zae hx];refine⟨λz=>absurd (Zab z).symm hx,λz=>?_⟩;rw[(j.iff _ _ hx).mpr z] at hl;exact absurd (Zab hl) hg
  ·rw[Zae hb];by_cases hx:g=x
   ·subst hx;rw[Zag rfl];exact⟨λz=>absurd z (j.no b'),λz=>absurd (Zab z).symm hb⟩
   ·rw[Zae hx];exact j.iff _ _ hx
 ·rw[gB];split
  ·exact λz=>ny (Zab z).symm
  ·rename_i hb;exact λz=>hb (by have h1:=(j.iff _ _ ny).mp z;have h2:=(j.iff _ _ ny).mp hl;rw[h1] at h2;exact Zab h2)
 ·rw[gB] at h;split at h
  ·rename_i hb;cases h;subst hb;exact⟨xa,an⟩
  ·exact j.ok h
 ·rw[hq] at z;cases z;exact da hd
 ·rw[gB,Zae λw=>by subst w;exact j.xd d hd z]
  exact j.bd g d hd z
 ·rw[gB];split
  ·simp
  ·exact j.more b' hb'
 ·rw[gB] at hb';split at hb'
  ·rename_i e';subst e';exact j.less _ (by rw[hl];simp)
  ·exact j.less b' hb'
end
theorem Lh{G:Gs}{A B cb:List (Nat×Nat)}:d7 [G.GA A,G.GD B,G.GD cb,.non]=some (.ok (.tup [G.GA A,G.GD B])):=by
 suffices h:∃ p,d7 [G.GA A,G.GD B,G.GD cb,.non]=some (.ok p)/\p=.tup [G.GA A,G.GD B] by
  obtain⟨p,e,rfl⟩:=h;exact e
 show ∃ p,vY (iy (dZ [G.GA A,G.GD B,G.GD cb,.non] 3))=some (.ok p)/\p=.tup [G.GA A,G.GD B]
 refine zu ?_;unfold iy;rw[show dZ [G.GA A,G.GD B,G.GD cb,.non] 3=[some (.ow (G.GA A)),some (.ow (G.GD B)),some (.sh (G.GD cb)),some (.sh .non),none,none,none] from rfl];walk_at "rd"
 refine wM (n:=1999) (I:=λ_ ρ=>ρ=[some (.ow (G.GA A)),some (.ow (G.GD B)),some (.sh (G.GD cb)),some (.sh .non),some (.sh .non),none,none]) rfl ?_;rintro k ρ rfl;walk_at "rd"
 try rw[Zae (show ¬PV.non.jj=false by decide)]
 exact⟨_,rfl,rfl⟩
def PrY(n N:Nat)(W:Nat->List Nat)(A0 B0:List (Nat×Nat))(s:Nat)(cbx:List (Nat×Nat))(Dd:Nat->Prop)(m:Nat)(A B:List (Nat×Nat)):Option Nat->Prop
 |none=>Pm n W A B/\lk A s≠none/\(∀ b,lk A0 b≠none->lk A b≠none)/\(∀ b,lk A b≠none->b=s\/lk A0 b≠none)/\gf W B Dd
 |some x=>∃ k a,cbx[k]?=some (x,a)/\k<m/\Jp n N W A0 B0 s cbx Dd k x A B
inductive PrI(G:Gs)(n N:Nat)(W:Nat->List Nat)(A0 B0:List (Nat×Nat))(s:Nat)(cbx:List (Nat×Nat))(Dd:Nat->Prop)(g m:Nat):Rho->Prop
 |mk (A B:List (Nat×Nat)) (y:Option Nat) (v5 v6:Option Sl) (hy:PrY n N W A0 B0 s cbx Dd m A B y):PrI G n N W A0 B0 s cbx Dd g m [some (.ow (G.GA A)),some (.ow (G.GD B)),some (.sh (G.GD cbx)),some (.sh (G.gv g)),some (.sh (gvP G y)),v5,v6]
theorem Ss{G:Gs}{n N:Nat}{W:Nat->List Nat}{A0 B0 cb:List (Nat×Nat)}{s g a:Nat}{Dd:Nat->Prop}(hn:n<=600)(hN:N<=600)(wl:∀ i g,g∈W i->g<N)(P:Pm n W A0 B0)(b:Bk n W B0 s (cb++[(g,a)]))(c:gf W B0 Dd)(hs:lk A0 s=none)(hg:lk B0 g=none) :
  ∃ A B,d7 [G.GA A0,G.GD B0,G.GD (cb++[(g,a)]),G.gv g]=some (.ok (.tup [G.GA A,G.GD B]))/\Pm n W A B/\lk A s≠none/\(∀ b,lk A0 b≠none->lk A b≠none)/\(∀ b,lk A b≠none->b=s\/lk A0 b≠none)/\gf W B Dd:=by
 have big:∀ {k:Nat},k<=9000->k<sizeLine:=λh=>xu (by lia)
 suffices h:∃ p,d7 [G.GA A0,G.GD B0,G.GD (cb++[(g,a)]),G.gv g]=some (.ok p)/\∃ A B,p=.tup [G.GA A,G.GD B]/\Pm n W A B/\lk A s≠none/\(∀ b,lk A0 b≠none->lk A b≠none)/\(∀ b,lk A b≠none->b=s\/lk A0 b≠none)/\gf W B Dd by
  obtain⟨p,e,A,B,rfl,h⟩:=h;exact⟨A,B,e,h⟩
 generalize hcb:cb++[(g,a)]=cbx at b ⊢
 have e0:cbx[cb.length]?=some (g,a):=by rw[<-hcb];simp
 have hlen:cbx.length<=N:=nJ b.nd λx hx=>by
  obtain⟨p,hp,rfl⟩:=Zas.mp hx;exact wl _ _ (b.wish p hp)
 have kl:∀ {l:List (Nat×Nat)}{k:Nat},k∈l.map (·.1)->∃ v,lk l k=some v:=λ{l k} h=>by
  cases e:lk l k with
  |none=>exact absurd h (lN.mp e)
  |some v=>exact⟨v,rfl⟩
 have j0:Jp n N W A0 B0 s cbx Dd cb.length g A0 B0:=by
  refine⟨P.ndA,P.ndB,λx hx=>?_,λx hx=>?_,λi p b' h1 h2 h3=>h3,hs,λa' g' _=>P.iff a' g',λa' z=>?_,P.ok,λd _ z=>?_,λg' d _ z=>z,λb' z=>z,λb' z=>z⟩
  ·obtain⟨v,hv⟩:=kl hx;exact(P.ok hv).2
  ·obtain⟨v,hv⟩:=kl hx;exact wl _ _ (P.ok ((P.iff _ _).mpr hv)).1
  ·rw[(P.iff _ _).mp z] at hg;cases hg
  ·rw[hg] at z;cases z
 refine zu (um λQS hQ=>?_);unfold iy;rw[show dZ [G.GA A0,G.GD B0,G.GD cbx,G.gv g] 3=[some (.ow (G.GA A0)),some (.ow (G.GD B0)),some (.sh (G.GD cbx)),some (.sh (G.gv g)),none,none,none] from rfl];walk_at "rd"
 refine wM (n:=1999) (I:=PrI G n N W A0 B0 s cbx Dd g) (.mk A0 B0 (some g) none none ⟨cb.length,a,e0,by have:=(Zac.mp e0).1;lia,j0⟩) ?_
 rintro m _ ⟨A,B,y,v5,v6,hy⟩;cases y with
 |none=>
  rw[show gvP G none=.non from rfl];walk_at "rd"
  try rw[Zae (show ¬PV.non.jj=false by decide)]
  exact hQ _ ⟨_,rfl,A,B,rfl,hy⟩
 |some x=>
  obtain⟨k,a',ek,km,j⟩:=hy;rw[show gvP G (some x)=G.gv x from rfl];walk_at "rd"
  rw[Zag (G.nn x)];refine⟨by lia,Ew λQS2 hQ2=>?_⟩
  unfold oW;have lc:lk cbx x=some a':=xn b.nd (Zal ek);have lA:=nJ j.ndA j.kA;have lB:=nJ j.ndB j.kB;walk_at "rd"
  have M:PrI G n N W A0 B0 s cbx Dd g (m-1) _:=.mk (ptN A a' x) (ptN B x a') (lk A a') (some (.sh ((G.av a')))) (some (.sh ((Option.map G.gv (lk A a')).getD PV.non))) (by
   cases hl:lk A a' with
   |none=>exact j.last P b c ek hl
   |some y=>
    obtain⟨k2,a2,h1,h2,h3⟩:=j.step P wl b c ek hl;exact⟨k2,a2,h2,by lia,h3⟩)
  rw[show gvP G (lk A a')=(Option.map G.gv (lk A a')).getD PV.non by cases lk A a'<;>rfl] at M
  exact⟨G.isD _,(G.av a'),by rw[G.find,lc];rfl,rfl,_,G.Ud _ _,_,G.Yk j.ndA (big (by lia)),_,G.put _ _ _ j.ndB (big (by lia)),hQ2 _ M⟩
theorem Fg(p:Sk):oV (skK p)=skP p:=by
 unfold oV skK skP;rw[Zan,List.map_map];rfl
theorem Bw(G:Gs)(n:Nat)(W:Nat->List Nat):pW ((List.range n).map λ(i:Nat)=>(G.aK i,PV.lst (G.GL (W i))))=G.AL (List.range n):=by
 unfold pW Gs.AL;rw[List.map_map];exact Za4 λi _=>Fg _
theorem xH{l:List (List Key×PV)}{Q:List PV->Prop}:Tv (rF (.dt l)) Q=Q (pW l):=tv_some
theorem zF{l:List (List Key×PV)}{Q:List PV->Prop}:Tv (rG (.dt l)) Q=Q (lG l):=tv_some
inductive MpI(G:Gs)(n:Nat)(W:Nat->List Nat)(j:Nat):Rho->Prop
 |mk (A B:List (Nat×Nat)) (v3 v4:Option Sl) (P:Pm n W A B) (un:∀ a,j<=a->lk A a=none) (Dd:Nat->Prop) (c:gf W B Dd) (hd:∀ a,a<j->lk A a=none->Dd a):MpI G n W j [some (.sh (wiP G n W)),some (.ow (G.GA A)),some (.ow (G.GD B)),v3,v4]
theorem Su{G:Gs}{n N:Nat}{W:Nat->List Nat}(hn:n<=600)(hN:N<=600)(wl:∀ i g,g∈W i->g<N) :
  ∃ A B,fV [wiP G n W]=some (.ok (G.GA A))/\Pm n W A B/\∃ Dd,gf W B Dd/\∀ a,a<n->lk A a=none->Dd a:=by
 have big:∀ {k:Nat},k<=9000->k<sizeLine:=λh=>xu (by omega)
 suffices h:∃ p,fV [wiP G n W]=some (.ok p)/\∃ A B,p=G.GA A/\Pm n W A B/\∃ Dd,gf W B Dd/\∀ a,a<n->lk A a=none->Dd a by
  obtain⟨p,e,A,B,rfl,h⟩:=h;exact⟨A,B,e,h⟩
 refine Jv (um λQS hQ=>?_);unfold lH;rw[show startR [wiP G n W] 4=[some (.sh (wiP G n W)),none,none,none,none] from rfl];walk_at "rd"
 refine⟨rfl,?_⟩;rw[show wiP G n W=.dt ((List.range n).map λ(i:Nat)=>(G.aK i,PV.lst (G.GL (W i)))) from rfl,xH,Bw,<-show wiP G n W=.dt ((List.range n).map λ(i:Nat)=>(G.aK i,PV.lst (G.GL (W i)))) from rfl];refine dF (I:=MpI G n W) (.mk [] [] none none ⟨by simp,by simp,λa g=>by simp[lk],λ{a g} h=>by simp[lk] at h⟩ (λa _=>rfl) (λ_=>False) (λd h=>h.elim) λa h=>absurd h (Nat.not_lt_zero _)) ?_ ?_
 case refine_2=>
  rintro _ ⟨A,B,v3,v4,P,un,Dd,c,hd⟩;walk_at "rd"
  unfold ni;walk_at "rd"
  exact hQ _ ⟨_,rfl,A,B,rfl,P,Dd,c,λa ha=>hd a (by simpa[Gs.AL] using ha)⟩
 rintro j y _ ey ⟨A,B,v3,v4,P,un,Dd,c,hd⟩;refine Ew λQS2 hQ2=>?_;obtain⟨s,es,rfl⟩:=V3 ey;have hs:s=j/\s<n:=by
  have hj:j<n:=by simpa using(Zac.mp es).1
  rw[Zbm hj] at es;cases es;exact⟨rfl,hj⟩
 obtain⟨rfl,sn⟩:=hs;obtain⟨g,R,cb,ew,he⟩:=zE (G:=G) (B:=B) (S:=[s]) hN (by simp) (λa ha=>by simp at ha;omega) wl λg b h=>(P.ok ((P.iff _ _).mpr h)).2
 unfold m9;walk_at "rd"
 refine⟨ZaM (big (by omega)),?_⟩
 rw[show[(G.av s)]=G.AL [s] from rfl,ew];walk_at "rd"
 cases g with
 |none=>
  obtain⟨hw,hc⟩:=he;refine⟨_,_,Lh,hQ2 _ (.mk A B _ _ P (λa ha=>un a (by omega)) (λd=>Dd d\/d∈R) (λd hd' g hg=>?_) λa ha hl=>?_)⟩
  ·rcases hd' with h|h
   ·obtain⟨d',h1,h2⟩:=c d h g hg;exact⟨d',h1,.inl h2⟩
   ·obtain⟨p,hp,rfl⟩:=Zas.mp (hc d h g hg);cases e:lk B p.1 with
    |none=>exact absurd e (hw.pr p hp)
    |some b=>
     refine⟨b,rfl,.inr ?_⟩;rw[hw.eq];exact ZaN _ (Zas.mpr ⟨p,hp,by rw[e];rfl⟩)
  ·by_cases e:a=s
   ·right;subst e;rw[hw.eq];simp
   ·exact .inl (hd a (by omega) hl)
 |some g=>
  obtain⟨cb',a,i,rfl,hw,ha,hg,hk,hb⟩:=he;obtain⟨A',B',e1,P',h1,h2,h3,c'⟩:=Ss (G:=G) hn hN wl P (hw.bk ha hg hk) c (un s (Zai _)) hb;refine⟨_,_,e1,hQ2 _ (.mk A' B' _ _ P' (λb hb'=>?_) Dd c' λb hb' hl=>?_)⟩
  ·cases e:lk A' b with
   |none=>rfl
   |some z=>
    rcases h3 b (by rw[e];simp) with h|h
    ·omega
    ·exact absurd (un b (by omega)) h
  ·by_cases e:b=s
   ·subst e;exact absurd hl h1
   ·refine hd b (by omega) ?_
    cases z:lk A b with
    |none=>rfl
    |some z'=>exact absurd hl (h2 b (by rw[z];simp))
theorem ju{α:Type}{tg:PV->Rho->Option Rho}{tst:Fn Bool}{el:Fn PV}{ρb:Rho}(src:α->PV)(t:α->Bool)(f:α->PV):∀ (l:List α),
  (∀ x∈l,∃ ρ1,tg (src x) ρb=some ρ1/\tst ρ1=some (.ok (t x))/\(t x=true->el ρ1=some (.ok (f x))))->dJ tg tst el ρb (l.map src)=some (.ok ((l.filter t).map f))
 |[],_=>rfl
 |x::xs,h=>by
  obtain⟨ρ1,e1,e2,e3⟩:=h x List.mem_cons_self;have ih:=ju src t f xs λy hy=>h y (List.mem_cons_of_mem _ hy);rw[Zan,dJ,e1];simp only[e2,bnd];cases ht:t x with
  |true=>simp only[ZbI,e3 ht,ih,bnd,ZbT,ht,Zan]
  |false=>simp only[Zbg,Zbh,ih,ZbT,ht]
def yh(l B:List (Nat×Nat)):List (Nat×Nat):=l.foldl (λB p=>ptN B p.2 p.1) B
theorem JL{g a:Nat}:∀ (l:List (Nat×Nat)) {B:List (Nat×Nat)},(l.map (·.2)).Nodup->(lk (yh l B) g=some a↔(a,g)∈l\/(lk B g=some a/\g ∉ l.map (·.2)))
 |[],B,_=>by simp[yh]
 |p::l,B,nd=>by
  rw[Zan,Zbv] at nd;show lk (yh l (ptN B p.2 p.1)) g=some a↔_
  rw[JL l nd.2,gB];by_cases h:g=p.2
  ·subst h;rw[Zag rfl];constructor
   ·rintro(h|⟨h,_⟩)
    ·exact .inl (List.mem_cons_of_mem _ h)
    ·cases h;exact .inl List.mem_cons_self
   ·rintro(h|⟨_,h⟩)
    ·rcases Zaw.mp h with e|h
     ·right;rw[<-e];exact⟨rfl,by rw[show(a,p.2).2=p.2 from rfl];exact nd.1⟩
     ·exact absurd (Zas.mpr ⟨_,h,rfl⟩) nd.1
    ·simp at h
  ·rw[Zae h];constructor
   ·rintro(q|⟨q1,q2⟩)
    ·exact .inl (List.mem_cons_of_mem _ q)
    ·exact .inr ⟨q1,by simp only[Zan,Zaw,not_or];exact⟨h,q2⟩⟩
   ·rintro(q|⟨q1,q2⟩)
    ·rcases Zaw.mp q with e|q
     ·rw[<-e] at h;exact absurd rfl h
     ·exact .inl q
    ·simp only[Zan,Zaw,not_or] at q2;exact .inr ⟨q1,q2.2⟩
theorem JM{G:Gs}:∀ (l:List (Nat×Nat)) {B:List (Nat×Nat)},(B.map (·.1)).Nodup->B.length+l.length<=9000->gR (G.GD B) (l.map λp=>(G.gv p.2,G.av p.1))=some (G.GD (yh l B))
 |[],_,_,_=>rfl
 |p::l,B,nd,h=>by
  have h1:=G.put B p.2 p.1 nd (xu (by simp at h;lia))
  rw[Zan];unfold gR;rw[h1];exact JM l (Ff nd _ _) (by have:=V2 p.2 p.1 B;simp at h;lia)
theorem Fi{G:Gs}:∀ (l:List (Nat×Nat)),lu (l.map λp=>PV.tup [G.gv p.2,G.av p.1])=some (l.map λp=>(G.gv p.2,G.av p.1))
 |[]=>rfl
 |p::l=>by
  rw[Zan];unfold lu;rw[Fi l];rfl
theorem Pm.Xw{n:Nat}{W:Nat->List Nat}{A B:List (Nat×Nat)}(P:Pm n W A B):(A.map (·.2)).Nodup:=by
 have h:=P.ndA;rw[List.Nodup,Zbn] at h ⊢;refine h.imp_of_mem λ{p q} hp hq hne e=>hne ?_;have h1:=(P.iff _ _).mp (xn P.ndA (show(p.1,p.2)∈A from hp));have h2:=(P.iff _ _).mp (xn P.ndA (show(q.1,q.2)∈A from hq));rw[e,h2] at h1;exact(Zab h1).symm
theorem Pm.rev{n:Nat}{W:Nat->List Nat}{A B:List (Nat×Nat)}(P:Pm n W A B)(g a:Nat):lk (yh A []) g=some a↔lk B g=some a:=by
 rw[JL A P.Xw,<-P.iff];simp only[lk,reduceCtorEq,false_and,or_false];exact⟨λh=>xn P.ndA h,λh=>Bv h⟩
def lZ(n:Nat)(A:List (Nat×Nat)):List Nat:=(List.range n).filter λa=>(lk A a).isNone
theorem Fj(G:Gs)(l:List (Nat×Nat)):lG (kvQ G.aK G.gv l)=l.map λp=>PV.tup [G.av p.1,G.gv p.2]:=by
 unfold lG kvQ;rw[List.map_map];exact Za4 λp _=>by show PV.tup [oV (skK (G.aS p.1)),G.gv p.2]=_;rw[Fg];rfl
def tO(ps:List Sk):List Sk:=(fH ps).map λj=>ps.getD j default
theorem tQ(ps:List Sk):(tO ps).Perm ps:=by
 have h:=(j8 ps).map λj=>ps.getD j default;refine h.trans (List.Perm.of_eq ?_);apply ZbA
 intro i;rw[List.getElem?_map];by_cases hi:i<ps.length
 ·rw[Zbm hi,List.getElem?_eq_getElem hi];show some (ps.getD i default)=_
  rw[List.getD_eq_getElem?_getD,List.getElem?_eq_getElem hi];rfl
 ·rw[ZaL (by simpa using hi),ZaL (by simpa using hi)];rfl
theorem zG:∀ (ps:List Sk),wC (ps.map skP)=some ps
 |[]=>rfl
 |p::ps=>by
  rw[Zan];unfold wC;rw[zG ps];have:Vy (skP p)=some p:=by
   show(mX (p.2.map PV.int)).map _=_
   rw[MM.lF];rfl
  rw[this]
theorem zH:∀ (ns:List Int),ul (ns.map .inl)=some ns
 |[]=>rfl
 |n::ns=>by
  show(ul (ns.map .inl)).map (n::·)=_
  rw[zH ns];rfl
theorem Fl:∀ (ps:List Sk),xW (ps.map skK)=some ps
 |[]=>rfl
 |p::ps=>by
  rw[Zan];unfold xW;rw[Fl ps];have:kSk (skK p)=some p:=by
   show(ul (p.2.map .inl)).map _=_
   rw[zH];rfl
  rw[this]
theorem Fo{ps:List Sk}(h:∀ p∈ps,p.2.length=3):jD ps=true:=by
 cases ps with
 |nil=>rfl
 |cons p l=>
  refine Za6.mpr λq hq=>?_;rw[h q (List.mem_cons_of_mem _ hq),h p List.mem_cons_self];rfl
theorem JN{ps:List Sk}(nd:ps.Nodup)(h:∀ p∈ps,p.2.length=3)(hl:ps.length<sizeLine):ou (ps.map skP)=some (.ok (.lst ((tO ps).map skP))):=by
 unfold ou;rw[zG];show(if _ then _ else _)=_
 rw[Zag ⟨nd,Fo h,hl⟩];unfold tO;rw[List.map_map];rfl
theorem Sv{l:List (List Key×PV)}{ps:List Sk}(e:l.map (·.1)=ps.map skK)(nd:ps.Nodup)(h:∀ p∈ps,p.2.length=3)(hl:ps.length<sizeLine):wF (.dt l)=some (.ok (.lst ((tO ps).map skP))):=by
 show(match xW (l.map (·.1)) with
  |some ps=>if ps.Nodup/\jD ps=true/\ps.length<sizeLine then some (Res.ok (PV.lst ((fH ps).map λj=>skP (ps.getD j default)))) else none
  |none=>none)=_
 rw[e,Fl];show(if _ then _ else _)=_
 rw[Zag ⟨nd,Fo h,hl⟩];unfold tO;rw[List.map_map];rfl
theorem Wk.ndR{n:Nat}{W:Nat->List Nat}{A B B':List (Nat×Nat)}{R:List Nat}{cb:List (Nat×Nat)}(P:Pm n W A B)(hB:∀ g a,lk B' g=some a↔lk B g=some a)(hw:Wk n W B' (lZ n A) R cb):R.Nodup:=by
 rw[hw.eq,ZbC];refine⟨List.Nodup.sublist ZbG ZbS,?_,λa ha b hb e=>?_⟩
 ·have h:=hw.nd;rw[List.Nodup,Zbn] at h ⊢;refine h.imp_of_mem λ{p q} hp hq hne e=>hne ?_;cases e1:lk B' p.1 with
  |none=>exact absurd e1 (hw.pr p hp)
  |some a=>
   cases e2:lk B' q.1 with
   |none=>exact absurd e2 (hw.pr q hq)
   |some b=>
    rw[e1,e2] at e;have e:a=b:=e;subst e;have h1:=(P.iff _ _).mpr ((hB _ _).mp e1);have h2:=(P.iff _ _).mpr ((hB _ _).mp e2);rw[h1] at h2;exact Zab h2
 ·subst e;obtain⟨p,hp,e1⟩:=Zas.mp hb;cases e2:lk B' p.1 with
  |none=>exact absurd e2 (hw.pr p hp)
  |some z=>
   rw[e2] at e1;have e1:z=a:=e1;subst e1;have h1:=(P.iff _ _).mpr ((hB _ _).mp e2);have:=(ZaG.mp ha).2;rw[h1] at this;cases this
theorem Pn{G:Gs}{n N:Nat}{W:Nat->List Nat}{A B:List (Nat×Nat)}{Dd:Nat->Prop}(hn:n<=600)(hN:N<=600)(wl:∀ i g,g∈W i->g<N)(P:Pm n W A B)(c:gf W B Dd)(hd:∀ a,a<n->lk A a=none->Dd a) :
  ∃ B' R cb,dN [wiP G n W,G.GA A]=some (.ok (.tup [.lst ((tO (R.map G.aS)).map skP),.lst ((tO (cb.map λp=>G.gS p.1)).map skP)]))/\(∀ g a,lk B' g=some a↔lk B g=some a)/\Wk n W B' (lZ n A) R cb/\∀ a∈R,∀ x∈W a,x∈cb.map (·.1):=by
 have big:∀ {k:Nat},k<=9000->k<sizeLine:=λh=>xu (by lia)
 have kl:∀ {l:List (Nat×Nat)}{k:Nat},k∈l.map (·.1)->∃ v,lk l k=some v:=λ{l k} h=>by
  cases e:lk l k with
  |none=>exact absurd h (lN.mp e)
  |some v=>exact⟨v,rfl⟩
 have lA:A.length<=n:=nJ P.ndA λx hx=>by obtain⟨v,hv⟩:=kl hx;exact(P.ok hv).2
 obtain⟨g,R,cb,ew,he⟩:=zE (G:=G) (B:=yh A []) (S:=lZ n A) hN (by have:(lZ n A).length<=(List.range n).length:=Za1 _ _;rw[List.length_range] at this;lia) (λa ha=>by simpa[lZ] using(ZaG.mp ha).1) wl λg b h=>(P.ok ((P.iff _ _).mpr ((P.rev g b).mp h))).2
 have stay:∀ {R cb},Wk n W (yh A []) (lZ n A) R cb->(∀ a∈R,Dd a):=λ{R cb} hw=>by
  intro a ha;obtain⟨i,hi⟩:=Zby ha;induction i using Nat.strongRecOn generalizing a with
  |_ i ih=>
   rw[hw.eq] at hi;by_cases hl:i<(lZ n A).length
   ·rw[Zaj hl] at hi;have:=ZaG.mp (Zal hi);exact hd a (by simpa using this.1) (by simpa using this.2)
   ·rw[Zau (by lia),List.getElem?_map] at hi
    cases q:cb[i-(lZ n A).length]? with
    |none=>rw[q] at hi;cases hi
    |some p=>
     rw[q] at hi;have hi:some ((lk (yh A []) p.1).getD 0)=some a:=hi;obtain⟨j,h1,h2⟩:=hw.back _ p q;have dj:=ih j (by lia) p.2 (Zal h2) h2
     obtain⟨d',e1,e2⟩:=c p.2 dj p.1 (hw.wish p (Zal q));rw[(P.rev _ _).mpr e1] at hi;cases hi;exact e2
 have hg:g=none:=by
  cases g with
  |none=>rfl
  |some g=>
   obtain⟨cb',a,i,rfl,hw,ha,hg,hk,hb⟩:=he;obtain⟨d',e1,_⟩:=c a (stay hw a (Zal ha)) g hg;rw[(P.rev _ _).mpr e1] at hb;cases hb
 subst hg;obtain⟨hw,hc⟩:=he;refine⟨yh A [],R,cb,?_,P.rev,hw,hc⟩;refine jo ?_;unfold fW;rw[show startR [wiP G n W,G.GA A] 2=[some (.sh (wiP G n W)),some (.sh (G.GA A)),none,none] from rfl];walk_at "rd"
 rw[show G.GA A=.dt (kvQ G.aK G.gv A) from rfl,zF,Fj,ju (λp:Nat×Nat=>PV.tup [G.av p.1,G.gv p.2]) (λ_=>true) (λp=>PV.tup [G.gv p.2,G.av p.1]) A λp _=>⟨_,rfl,rfl,λ_=>jE (by walk_at "rd";exact ZaM (big (by lia)))⟩,tv_some,ZbQ.mpr (λ_ _=>rfl)]
 have pa:gR (.dt []) (A.map λp=>(G.gv p.2,G.av p.1))=some (G.GD (yh A [])):=by
  have h:=JM (G:=G) A (B:=[]) (by simp) (by simp;lia)
  exact h
 refine⟨rfl,by rw[List.length_map];exact ZaM (big (by lia)),_,Fi A,_,pa,rfl,?_⟩
 rw[show wiP G n W=.dt ((List.range n).map λ(i:Nat)=>(G.aK i,PV.lst (G.GL (W i)))) from rfl,xH,Bw,<-show wiP G n W=.dt ((List.range n).map λ(i:Nat)=>(G.aK i,PV.lst (G.GL (W i)))) from rfl];refine⟨by simp only[Gs.AL,List.length_map,List.length_range];exact ZaM (big (by lia)),?_⟩
 rw[show G.AL (List.range n)=(List.range n).map G.av from rfl,ju G.av (λa=>(lk A a).isNone) G.av (List.range n) λa _=>⟨_,rfl,jE (by
  walk_at "rd"
  refine⟨_,G.Ud A a,?_⟩;cases lk A a<;>rfl),λ_=>jE (by walk_at "rd")⟩,tv_some,show((List.range n).filter λa=>(lk A a).isNone).map G.av=G.AL (lZ n A) from rfl,ew]
 walk_at "rd"
 have hR:=hw.len;have hcb:=hw.xG wl;have hf:(lZ n A).length<=(List.range n).length:=Za1 _ _;rw[List.length_range] at hf;have nR:R.length<=n:=by
  have:=cJ (l:=R) (k:=List.range n) (Wk.ndR P P.rev hw) λx hx=>ZaA.mpr (hw.lt x hx);simpa using this
 have ndR:=Wk.ndR P P.rev hw;have nm:∀ {l:List Nat}{f:Nat->Sk},l.Nodup->(∀ a b,f a=f b->a=b)->(l.map f).Nodup:=λ{l f} nd inj=>by
  rw[List.Nodup,Zbn];exact nd.imp λhne e=>hne (inj _ _ e)
 rw[show G.AL R=(R.map G.aS).map skP by rw[List.map_map];rfl,JN (nm ndR G.ia) (λp hp=>by obtain⟨a,_,rfl⟩:=Zas.mp hp;exact G.la a) (by rw[List.length_map];exact big (by lia)),tv_some]
 refine⟨rfl,?_⟩;rw[show G.GD cb=.dt (kvQ G.gK G.av cb) from rfl,Sv (ps:=cb.map λp=>G.gS p.1) (by unfold kvQ;rw[List.map_map,List.map_map];rfl) (by have:=nm (f:=G.gS) hw.nd G.ig;rw[List.map_map] at this;exact this) (λp hp=>by obtain⟨a,_,rfl⟩:=Zas.mp hp;exact G.lg _) (by rw[List.length_map];exact big (by lia)),tv_some]
 exact⟨ZaM (big (by lia)),rfl⟩
def qb(l:List Int):List (Int×Int):=l.zip l.tail
theorem Bx:∀ {l:List Int},l.Pairwise (·<·)->∀ p∈qb l,p.1<p.2/\p.1∈l/\p.2∈l/\∀ y∈l,y<=p.1\/p.2<=y
 |[],_,p,hp=>by simp[qb] at hp
 |[a],_,p,hp=>by simp[qb] at hp
 |a::b::l,pw,p,hp=>by
  have h1:=List.pairwise_cons.mp pw;have hp:p∈(a,b)::qb (b::l):=hp;rcases Zaw.mp hp with e|hp
  ·subst e;refine⟨h1.1 b List.mem_cons_self,List.mem_cons_self,List.mem_cons_of_mem _ List.mem_cons_self,λy hy=>?_⟩;rcases Zaw.mp hy with e|hy
   ·left;show y<=a;lia
   ·right
    rcases Zaw.mp hy with e|hy
    ·show b<=y;lia
    ·have:=(List.pairwise_cons.mp h1.2).1 y hy;show b<=y;lia
  ·obtain⟨q1,q2,q3,q4⟩:=Bx h1.2 p hp;refine⟨q1,List.mem_cons_of_mem _ q2,List.mem_cons_of_mem _ q3,λy hy=>?_⟩;rcases Zaw.mp hy with e|hy
   ·left
    have:=h1.1 p.1 q2;lia
   ·exact q4 y hy
theorem Pu{x:Int}:∀ {a:Int}{l:List Int},a<x->x ∉ l->(∃ y∈l,x<y)->∃ p∈qb (a::l),p.1<x/\x<p.2
 |a,[],_,_,h=>by obtain⟨y,hy,_⟩:=h;cases hy
 |a,b::l,ha,hx,h=>by
  by_cases hb:x<b
  ·exact⟨(a,b),List.mem_cons_self,ha,hb⟩
  ·have ne:x≠b:=λe=>hx (by rw[e];exact List.mem_cons_self)
   obtain⟨y,hy,h2⟩:=h;have hy:y∈l:=by
    rcases Zaw.mp hy with e|hy
    ·subst e;exact absurd h2 hb
    ·exact hy
   obtain⟨p,hp,q⟩:=Pu (a:=b) (l:=l) (by lia) (λz=>hx (List.mem_cons_of_mem _ z)) ⟨y,hy,h2⟩
   exact⟨p,List.mem_cons_of_mem _ hp,q⟩
def d9(q:Nat->Bool)(L:Nat):List Int:=(-1)::((((List.range L).filter q).map λ(i:Nat)=>(i:Int))++[(L:Int)])
theorem xJ{q:Nat->Bool}{L:Nat}{y:Int}:y∈d9 q L↔y=-1\/(∃ i:Nat,i<L/\q i=true/\y=i)\/y=L:=by
 unfold d9;simp only[Zaw,Zah,Zas,ZaG,ZaA,List.not_mem_nil,or_false];constructor
 ·rintro(h|⟨i,⟨h1,h2⟩,rfl⟩|h)
  ·exact .inl h
  ·exact .inr (.inl ⟨i,h1,h2,rfl⟩)
  ·exact .inr (.inr h)
 ·rintro(h|⟨i,h1,h2,rfl⟩|h)
  ·exact .inl h
  ·exact .inr (.inl ⟨i,⟨h1,h2⟩,rfl⟩)
  ·exact .inr (.inr h)
theorem By(q:Nat->Bool)(L:Nat):(d9 q L).Pairwise (·<·):=by
 unfold d9;rw[List.pairwise_cons];refine⟨λy hy=>?_,?_⟩
 ·rcases Zah.mp hy with hy|hy
  ·obtain⟨i,_,rfl⟩:=Zas.mp hy;omega
  ·simp at hy;omega
 ·rw[Zat];refine⟨?_,by simp,λa ha b hb=>?_⟩
  ·rw[Zbn];exact(Zao ZbG List.pairwise_lt_range).imp λh=>by omega
  ·obtain⟨i,hi,rfl⟩:=Zas.mp ha;have:=ZaA.mp (ZaG.mp hi).1;simp at hb;omega
def rY(q:Nat->Bool)(L:Nat):List (Int×Int):=((qb (d9 q L)).filter λp=>decide (p.1+1<p.2)).map λp=>(p.1+1,p.2-1)
def uo(q:Nat->Bool)(L:Nat)(x:Int):Int×Int:=(λp:Int×Int=>(p.1+1,p.2-1)) (((qb (d9 q L)).find? λp=>decide (p.1<x/\x<p.2)).getD (0,0))
structure yj(q:Nat->Bool)(L:Nat)(x:Int):Prop where
 x0:0<=x
 x1:x<L
 no:q x.toNat=false
section
variable{q:Nat->Bool}{L:Nat}{x y:Int}
theorem yj.Ue(f:yj q L x):x ∉ d9 q L:=λh=>by
 rcases xJ.mp h with e|⟨i,h1,h2,e⟩|e
 ·have:=f.x0;omega
 ·have:=f.no;rw[e,ZaQ,h2] at this;cases this
 ·have:=f.x1;omega
theorem yj.gap(f:yj q L x):∃ p∈qb (d9 q L),p.1<x/\x<p.2/\uo q L x=(p.1+1,p.2-1):=by
 have ex:∃ p∈qb (d9 q L),p.1<x/\x<p.2:=Pu (by have:=f.x0;omega) (λz=>f.Ue (List.mem_cons_of_mem _ z)) ⟨(L:Int),by simp,f.x1⟩
 cases e:(qb (d9 q L)).find? λp=>decide (p.1<x/\x<p.2) with
 |none=>
  obtain⟨p,h1,h2⟩:=ex;have:=List.find?_eq_none.mp e p h1;simp only[decide_eq_true_eq] at this;exact absurd h2 this
 |some p=>
  have h1:=List.find?_some e;simp only[decide_eq_true_eq] at h1;refine⟨p,List.mem_of_find?_eq_some e,h1.1,h1.2,?_⟩;unfold uo;rw[e];rfl
structure Run(q:Nat->Bool)(L:Nat)(p:Int×Int):Prop where
 a0:0<=p.1
 ab:p.1<=p.2
 b1:p.2<L
 fr:∀ y,p.1<=y->y<=p.2->yj q L y
theorem BJ{p:Int×Int}(hp:p∈qb (d9 q L))(h:p.1+1<p.2):Run q L (p.1+1,p.2-1):=by
 obtain⟨h1,h2,h3,h4⟩:=Bx (By q L) p hp;have ge:∀ y∈d9 q L,-1<=y/\y<=L:=λy hy=>by
  rcases xJ.mp hy with e|⟨i,h1,h2,e⟩|e<;>lia
 have g2:=ge _ h2;have g3:=ge _ h3;refine⟨by show 0<=p.1+1;lia,by show p.1+1<=p.2-1;lia,by show p.2-1<L;lia,λy y1 y2=>?_⟩
 have y1:p.1+1<=y:=y1;have y2:y<=p.2-1:=y2;refine⟨by lia,by lia,?_⟩
 cases e:q y.toNat with
 |false=>rfl
 |true=>
  have:=h4 y (xJ.mpr (.inr (.inl ⟨y.toNat,by lia,e,by lia⟩)))
  lia
theorem yj.run(f:yj q L x):Run q L (uo q L x)/\(uo q L x).1<=x/\x<=(uo q L x).2/\uo q L x∈rY q L:=by
 obtain⟨p,h1,h2,h3,e⟩:=f.gap;rw[e];refine⟨BJ h1 (by lia),by show p.1+1<=x;lia,by show x<=p.2-1;lia,?_⟩
 exact Zas.mpr ⟨p,ZaG.mpr ⟨h1,by simp only[decide_eq_true_eq];lia⟩,rfl⟩
theorem Px{p r:Int×Int}(hp:p∈qb (d9 q L))(hr:r∈qb (d9 q L))(h1:p.1<x)(h2:x<p.2)(h3:r.1<y)(h4:y<r.2)(hf:∀ z,(x<=z/\z<=y)\/(y<=z/\z<=x)->yj q L z):p=r:=by
 obtain⟨_,a2,a3,a4⟩:=Bx (By q L) p hp;obtain⟨_,b2,b3,b4⟩:=Bx (By q L) r hr;have no:∀ z∈d9 q L,¬((x<=z/\z<=y)\/(y<=z/\z<=x)):=λz hz h=>(hf z h).Ue hz;have c1:=no _ a2;have c2:=no _ a3;have c3:=no _ b2;have c4:=no _ b3;have d1:=b4 _ a2;have d2:=b4 _ a3;have d3:=a4 _ b2;have d4:=a4 _ b3;exact Prod.ext (by omega) (by omega)
theorem V7{p:Int×Int}(hp:p∈rY q L)(h1:p.1<=x)(h2:x<=p.2):uo q L x=p:=by
 obtain⟨r,hr,rfl⟩:=Zas.mp hp;obtain⟨hr,hd⟩:=ZaG.mp hr;simp only[decide_eq_true_eq] at hd;have h1:r.1+1<=x:=h1;have h2:x<=r.2-1:=h2;have f:yj q L x:=(BJ hr hd).fr x h1 h2;obtain⟨p,k1,k2,k3,e⟩:=f.gap;rw[e,Px k1 hr k2 k3 (by lia:r.1<x) (by lia) λz hz=>by
  have:z=x:=by lia
  rw[this];exact f]
theorem Sx{p:Int×Int}(hp:p∈rY q L):Run q L p:=by
 obtain⟨r,hr,rfl⟩:=Zas.mp hp;obtain⟨hr,hd⟩:=ZaG.mp hr;simp only[decide_eq_true_eq] at hd;exact BJ hr hd
end
def mj(w h:Int)(row:Bool):Nat:=(if row then w else h).toNat
def qOn(w:Int)(keep:Nat)(row:Bool)(l:Int):Nat->Bool:=λx=>keep.testBit (Mth.pl w.toNat (fK row l (x:Int)))
theorem Py{l m:List Int}:Hk (l.map PV.int) (m.map PV.int)=(l.zip m).map λp=>PV.tup [.int p.1,.int p.2]:=by
 unfold Hk;rw[List.zip_map,List.map_map];rfl
theorem xK{row:Bool}{l t:Int}(t0:0<=t):uf ((gb row l 0 t).map cellP)=(List.range (t+1).toNat).map λ(i:Nat)=>PV.tup [.int (i:Int),cellP (fK row l (i:Int))]:=by
 unfold gb uf;apply ZbA
 intro i;rw[List.getElem?_mapIdx,List.getElem?_map,List.getElem?_map,List.getElem?_map];rw[show t+1-0=t+1 by omega]
 by_cases hi:i<(t+1).toNat
 ·rw[Zbm hi];simp
 ·rw[ZaL (by simpa using hi)];rfl
theorem Pz(ns:List Int)(h:ns≠[]):Ha (ns.map PV.int) (some 1) none=ns.tail.map PV.int:=by
 cases ns with
 |nil=>exact absurd rfl h
 |cons n ns=>
  unfold Ha;have e1:HT.sIx ((n::ns).map PV.int).length 0 (some 1)=1:=by
   unfold HT.sIx;simp
  have e2:HT.sIx ((n::ns).map PV.int).length ((n::ns).map PV.int).length none=ns.length+1:=by
   unfold HT.sIx;simp
  rw[e1,e2];show((ns.map PV.int).take (ns.length+1-1))=_
  rw[Nat.add_sub_cancel,Zba (by simp)]
  rfl
theorem Fp{w h:Int}(sz:Sz w h)(keep:Nat){row:Bool}{l:Int}(l0:0<=l)(l1:l<if row then h else w) :
  dR [.tup [.int w,.int h],.int keep,.str (kJ row),.int l]=some (.ok (.lst ((rY (qOn w keep row l) (mj w h row)).map λp=>Fd row l p.1 p.2))):=by
 have w0:=sz.w0;have w1:=sz.w1;have h0:=sz.h0;have h1:=sz.h1;obtain⟨L,eL,L0,L1⟩:∃ L:Int,(if row then w else h)=L/\1<=L/\L<=24:=⟨_,rfl,by split<;>lia,by split<;>lia⟩
 have eN:mj w h row=L.toNat:=by unfold mj;rw[eL]
 have kl:(d9 (qOn w keep row l) L.toNat).length<=100:=by
  unfold d9;simp only[Zaz,List.length_append,List.length_map,ZbM];have:=Za1 (qOn w keep row l) (List.range L.toNat);rw[List.length_range] at this;lia
 refine uW (x:=dO (startR [.tup [.int w,.int h],.int keep,.str (kJ row),.int l] 3)) ?_;unfold dO;rw[show startR [.tup [.int w,.int h],.int keep,.str (kJ row),.int l] 3=[some (.sh (.tup [.int w,.int h])),some (.sh (.int keep)),some (.sh (.str (kJ row))),some (.sh (.int l)),none,none,none] from rfl];walk_at "rd"
 rw[Lg,eL];walk_at "rd"
 rw[show PV.tup [.str (kJ row),.int l,.int 0,.int (L-1)]=Fd row l 0 (L-1) from rfl,zB (by lia) (by lia) (by lia)]
 walk_at "rd"
 have eLN:(L-1+1).toNat=L.toNat:=by congr 1;lia
 have le:(uf ((gb row l 0 (L-1)).map cellP)).length<=100:=by
  rw[xK (by lia)]
  simp only[List.length_map,List.length_range];lia
 have big:∀ {k:Nat},k<=9000->k<=sizeLine:=λh=>ZaM (xu (by lia))
 refine⟨by decide,by decide,big (by lia),?_⟩
 rw[xK (by lia),eLN,ju (λ(i:Nat)=>PV.tup [.int (i:Int),cellP (fK row l (i:Int))]) (qOn w keep row l) (λ(i:Nat)=>PV.int (i:Int)) (List.range L.toNat) λi hi=>?a,tv_some]
 case a=>
  have hi:i<L.toNat:=ZaA.mp hi;have cl:Cell w h (fK row l (i:Int)).1 (fK row l (i:Int)).2:=by
   unfold fK;cases row with
   |true=>exact⟨by show(0:Int)<=i;lia,by have:(if true then w else h)=L:=eL;rw[Zag rfl] at this;show(i:Int)<w;lia,l0,by simpa using l1⟩
   |false=>exact⟨l0,by simpa using l1,by show(0:Int)<=i;lia,by have:(if false then w else h)=L:=eL;rw[Zae (by decide)] at this;show(i:Int)<h;lia⟩
  refine⟨_,rfl,jE ?_,λ_=>rfl⟩;walk_at "rd"
  rw[O9 sz cl];walk_at "rd"
  rfl
 have ek:PV.int (-1)::(((List.range L.toNat).filter (qOn w keep row l)).map (λ(i:Nat)=>PV.int (i:Int))++[PV.int (L-1+1)])=(d9 (qOn w keep row l) L.toNat).map PV.int:=by
  unfold d9;rw[Zan,Zbc,List.map_map,show L-1+1=((L.toNat:Nat):Int) by lia]
  rfl
 have lf:((List.range L.toNat).filter (qOn w keep row l)).length<=L.toNat:=by
  have:=Za1 (qOn w keep row l) (List.range L.toNat)
  rwa [List.length_range] at this
 rw[ek];have ec:Ha ((d9 (qOn w keep row l) L.toNat).map PV.int) (some 1) none=(d9 (qOn w keep row l) L.toNat).tail.map PV.int:=by
  exact Pz _ (by unfold d9;simp)
 rw[ec,Py];refine⟨by rw[List.length_map];exact big (by lia),by decide,by rw[List.length_map];exact big (by lia),?_,?_⟩
 ·rw[List.length_map];refine big ?_;rw[List.length_zip];lia
 rw[ju (λp:Int×Int=>PV.tup [.int p.1,.int p.2]) (λp=>decide (p.1+1<p.2)) (λp=>Fd row l (p.1+1) (p.2-1)) _ λp _=>⟨_,rfl,jE ?b,λ_=>jE ?c⟩,tv_some]
 case b=>walk_at "rd"
 case c=>
  walk_at "rd"
  exact⟨by decide,rfl⟩
 rw[eN];unfold rY qb;rw[List.map_map];rfl
def lnOf(row:Bool)(c:Int×Int):Int:=if row then c.2 else c.1
def PB(row:Bool)(c:Int×Int):Int:=if row then c.1 else c.2
def runC(w h:Int)(keep:Nat)(row:Bool)(c:Int×Int):Int×Int:=uo (qOn w keep row (lnOf row c)) (mj w h row) (PB row c)
def stS(w h:Int)(keep:Nat)(row:Bool)(c:Int×Int):Sk:=(kJ row,[lnOf row c,(runC w h keep row c).1,(runC w h keep row c).2])
def ckK(c:Int×Int):List Key:=[.inl c.1,.inl c.2]
theorem Xx(row:Bool)(l x:Int):lnOf row (fK row l x)=l:=by cases row<;>rfl
theorem Xy(row:Bool)(l x:Int):PB row (fK row l x)=x:=by cases row<;>rfl
theorem Xz(row:Bool)(c:Int×Int):fK row (lnOf row c) (PB row c)=c:=by cases row<;>rfl
theorem Sy{c d:Int×Int}(e:ckK c=ckK d):c=d:=by
 unfold ckK at e;rw[Zbw,Zbw] at e;exact Prod.ext (Sum.inl.inj e.1) (Sum.inl.inj e.2.1)
def Kn(w h:Int)(keep:Nat)(row:Bool)(d:List (List Key×PV))(c:Int×Int):Prop:=cQ d (ckK c)=some (skP (stS w h keep row c))
theorem Kn.put{w h:Int}{keep:Nat}{row:Bool}{d:List (List Key×PV)}{c:Int×Int}(k:Int×Int)(h':Kn w h keep row d c):Kn w h keep row (ir d (ckK k) (skP (stS w h keep row k))) c:=by
 unfold Kn;rw[wO];by_cases e:ckK c=ckK k
 ·rw[Zag e,Sy e]
 ·rw[Zae e];exact h'
theorem Kn.new{w h:Int}{keep:Nat}{row:Bool}{d:List (List Key×PV)}(k:Int×Int):Kn w h keep row (ir d (ckK k) (skP (stS w h keep row k))) k:=by
 unfold Kn;rw[wO,Zag rfl]
theorem SJ{w h:Int}{keep:Nat}{row:Bool}{c:Int×Int}(cl:Cell w h c.1 c.2)(no:keep.testBit (Mth.pl w.toNat c)=false):yj (qOn w keep row (lnOf row c)) (mj w h row) (PB row c):=by
 have c0:=cl.c0;have c1:=cl.c1;have r0:=cl.r0;have r1:=cl.r1;unfold mj;cases row with
 |true=>
  refine⟨c0,by show c.1<_;simp;lia,?_⟩
  show keep.testBit (Mth.pl w.toNat (((c.1.toNat:Nat):Int),c.2))=false
  rw[ZbE c0];exact no
 |false=>
  refine⟨r0,by show c.2<_;simp;lia,?_⟩
  show keep.testBit (Mth.pl w.toNat (c.1,((c.2.toNat:Nat):Int)))=false
  rw[ZbE r0];exact no
theorem ln0{w h:Int}{c:Int×Int}(cl:Cell w h c.1 c.2)(row:Bool):0<=lnOf row c:=by
 cases row
 ·exact cl.c0
 ·exact cl.r0
def LbD(w h:Int)(keep:Nat)(row:Bool)(d:List (List Key×PV))(i:Nat):Prop:=∀ c:Int×Int,Cell w h c.1 c.2->keep.testBit (Mth.pl w.toNat c)=false->lnOf row c<i->Kn w h keep row d c
def LbR(w h:Int)(keep:Nat)(row:Bool)(d:List (List Key×PV))(i j:Nat):Prop:=∀ (m:Nat) p (y:Int),m<j->(rY (qOn w keep row (i:Int)) (mj w h row))[m]?=some p->p.1<=y->y<=p.2->Kn w h keep row d (fK row i y)
inductive LbI(w h:Int)(keep:Nat)(row:Bool)(i:Nat):Rho->Prop
 |mk (d:List (List Key×PV)) (v4 v5 v6:Option Sl) (dl:d.length<=i*700) (hd:LbD w h keep row d i):LbI w h keep row i [some (.sh (.tup [.int w,.int h])),some (.sh (.int keep)),some (.sh (.str (kJ row))),some (.ow (.dt d)),v4,v5,v6]
inductive LbJ(w h:Int)(keep:Nat)(row:Bool)(i j:Nat):Rho->Prop
 |mk (d:List (List Key×PV)) (v5 v6:Option Sl) (dl:d.length<=i*700+j*25) (hd:LbD w h keep row d i) (hr:LbR w h keep row d i j):LbJ w h keep row i j [some (.sh (.tup [.int w,.int h])),some (.sh (.int keep)),some (.sh (.str (kJ row))),some (.ow (.dt d)),some (.sh (.int (i:Int))),v5,v6]
inductive LbK(w h:Int)(keep:Nat)(row:Bool)(i j:Nat)(p:Int×Int)(k:Nat):Rho->Prop
 |mk (d:List (List Key×PV)) (v6:Option Sl) (dl:d.length<=i*700+j*25+k) (hd:LbD w h keep row d i) (hr:LbR w h keep row d i j) (hk:∀ y:Int,p.1<=y->y<p.1+k->Kn w h keep row d (fK row i y)):LbK w h keep row i j p k [some (.sh (.tup [.int w,.int h])),some (.sh (.int keep)),some (.sh (.str (kJ row))),some (.ow (.dt d)),some (.sh (.int (i:Int))),some (.sh (Fd row i p.1 p.2)),v6]
theorem PJ{w h:Int}(sz:Sz w h)(keep:Nat)(row:Bool):∃ d,cB [.tup [.int w,.int h],.int keep,.str (kJ row)]=some (.ok (.dt d))/\∀ c:Int×Int,Cell w h c.1 c.2->keep.testBit (Mth.pl w.toNat c)=false->Kn w h keep row d c:=by
 have w0:=sz.w0;have w1:=sz.w1;have h0:=sz.h0;have h1:=sz.h1;obtain⟨n,en,n1,n2⟩:∃ n:Int,(if row then h else w)=n/\1<=n/\n<=24:=⟨_,rfl,by split<;>lia,by split<;>lia⟩
 have L24:mj w h row<=24:=by unfold mj;split<;>lia
 suffices hh:∃ p,cB [.tup [.int w,.int h],.int keep,.str (kJ row)]=some (.ok p)/\∃ d,p=.dt d/\∀ c:Int×Int,Cell w h c.1 c.2->keep.testBit (Mth.pl w.toNat c)=false->Kn w h keep row d c by
  obtain⟨p,e,d,rfl,q⟩:=hh;exact⟨d,e,q⟩
 refine Jv (um λQS hQ0=>?_);unfold fY;rw[show startR [.tup [.int w,.int h],.int keep,.str (kJ row)] 4=[some (.sh (.tup [.int w,.int h])),some (.sh (.int keep)),some (.sh (.str (kJ row))),none,none,none,none] from rfl];walk_at "rd"
 rw[Pg,en];walk_at "rd"
 refine⟨by lia,by lia,?_⟩
 refine dF (I:=LbI w h keep row)
  (.mk [] none none none (Zbb _) λc cl _ hl=>absurd hl (by have:=ln0 cl row;lia)) ?_ ?_
 case refine_2=>
  rintro _ ⟨d,v4,v5,v6,_,hd⟩;walk_at "rd"
  unfold iK;walk_at "rd"
  refine hQ0 _ ⟨_,rfl,d,rfl,λc cl no=>hd c cl no ?_⟩;rw[dX];have:lnOf row c<n:=by rw[<-en];unfold lnOf;cases row;exact cl.c1;exact cl.r1
  lia
 rintro i x _ hx ⟨d,v4,v5,v6,dl,hd⟩;refine Ew λQS hQ=>?_;obtain⟨hi,rfl⟩:=rW hx;rw[Int.zero_add];unfold iJ;walk_at "rd"
 rw[Fp sz keep (by lia) (by rw[en];lia)]
 walk_at "rd"
 have rl:(rY (qOn w keep row (i:Int)) (mj w h row)).length<=26:=by
  unfold rY qb;rw[List.length_map];refine ZaF (Za1 _ _) ?_;rw[List.length_zip];refine ZaF (Nat.min_le_left _ _) ?_;unfold d9;have:=Za1 (qOn w keep row (i:Int)) (List.range (mj w h row));rw[List.length_range] at this;simp only[Zaz,List.length_append,List.length_map,ZbM];lia
 refine dF (I:=LbJ w h keep row i)
  (.mk d v5 v6 (by lia) hd λm p y hm=>absurd hm (Nat.not_lt_zero _)) ?_ ?_
 case refine_2=>
  rintro _ ⟨d,v5,v6,dl,hd,hr⟩;rw[List.length_map] at dl hr;refine hQ _ (.mk d _ v5 v6 (by lia) λc cl no hl=>?_)
  by_cases e:lnOf row c<i
  ·exact hd c cl no e
  ·have e:lnOf row c=i:=by lia
   have fr:=SJ (row:=row) cl no;obtain⟨_,f1,f2,f3⟩:=fr.run;obtain⟨m,hm⟩:=Zby f3;rw[e] at hm f1 f2;have:=hr m _ (PB row c) (Zac.mp hm).1 hm f1 f2;rw[<-e,Xz] at this;exact this
 clear hQ
 rintro j x _ hx ⟨d,v5,v6,dl,hd,hr⟩;refine Ew λQS hQ=>?_;rw[List.getElem?_map] at hx;cases ep:(rY (qOn w keep row (i:Int)) (mj w h row))[j]? with
 |none=>rw[ep] at hx;cases hx
 |some p=>
  rw[ep] at hx;cases hx;have hp:=Zal ep;have pr:=Sx hp;have jl:j<26:=by have:=(Zac.mp ep).1;lia
  have a0:=pr.a0;have ab:=pr.ab;have b1:=pr.b1;unfold iI;walk_at "rd"
  rw[zB a0 ab (by lia)]
  walk_at "rd"
  refine dF (I:=LbK w h keep row i j p)
   (.mk d v6 (by lia) hd hr λy h1 h2=>by lia) ?_ ?_
  case refine_2=>
   rintro _ ⟨d,v6,dl,hd,hr,hk⟩;have lc:((gb row (i:Int) p.1 p.2).map cellP).length=(p.2+1-p.1).toNat:=by unfold gb;simp
   rw[lc] at dl hk;refine hQ _ (.mk d _ v6 (by lia) hd λm p' y hm e h1 h2=>?_)
   by_cases e':m=j
   ·subst e';rw[ep] at e;cases e;exact hk y h1 (by lia)
   ·exact hr m p' y (by lia) e h1 h2
  clear hQ
  rintro k x _ hx ⟨d,v6,dl,hd,hr,hk⟩;refine Ew λQS hQ=>?_;rw[List.getElem?_map] at hx;cases ec:(gb row (i:Int) p.1 p.2)[k]? with
  |none=>rw[ec] at hx;cases hx
  |some c=>
   rw[ec] at hx;cases hx;have kl:k<(p.2+1-p.1).toNat:=by have:=(Zac.mp ec).1;simpa[gb] using this
   have hc:c=fK row i (p.1+(k:Int)):=by
    unfold gb at ec;rw[List.getElem?_map,Zbm kl] at ec;exact(Zab ec).symm
   have es:Fd row (i:Int) p.1 p.2=skP (stS w h keep row c):=by
    have:=V7 hp (x:=p.1+(k:Int)) (by lia) (by lia)
    unfold stS runC;rw[hc,Xx,Xy,this];rfl
   unfold iH;walk_at "rd"
   refine⟨.dt (ir d (ckK c) (skP (stS w h keep row c))),?_,hQ _ (.mk _ _ ?_ (λc' cl no hl=>(hd c' cl no hl).put c) (λm p' y hm e h1 h2=>(hr m p' y hm e h1 h2).put c) λy h1 h2=>?_)⟩
   ·rw[es];show(if d.length<sizeLine then some (PV.dt (ir d (ckK c) (skP (stS w h keep row c)))) else none)=_
    exact Zag (xu (by lia))
   ·have:=Ey (ckK c) (skP (stS w h keep row c)) d;lia
   ·by_cases e:y<p.1+(k:Int)
    ·exact(hk y h1 e).put c
    ·have:y=p.1+(k:Int):=by lia
     rw[this,<-hc];exact Kn.new c
def jA(l:List Sk)(s:Sk):List Sk:=if s∈l then l else l++[s]
def ddp(xs:List Sk):List Sk:=xs.foldl jA []
theorem PK(xs:List Sk)(s:Sk):ddp (xs++[s])=jA (ddp xs) s:=by
 unfold ddp;rw[List.foldl_append];rfl
theorem BK:∀ (xs acc:List Sk),acc.Nodup->(xs.foldl jA acc).Nodup/\(∀ s,s∈xs.foldl jA acc↔s∈acc\/s∈xs)/\(xs.foldl jA acc).length<=acc.length+xs.length
 |[],acc,nd=>⟨nd,λs=>by simp,by simp⟩
 |x::xs,acc,nd=>by
  have nd2:(jA acc x).Nodup:=by
   unfold jA;split
   ·exact nd
   ·rename_i h;rw[ZbC];exact⟨nd,by simp,λa ha b hb e=>by simp at hb;subst hb;subst e;exact h ha⟩
  have mem:∀ s,s∈jA acc x↔s∈acc\/s=x:=λs=>by
   unfold jA;split
   ·rename_i h;exact⟨.inl,λq=>q.elim id λe=>by rw[e];exact h⟩
   ·rw[Zah,ZaK]
  have len:(jA acc x).length<=acc.length+1:=by unfold jA;split<;>simp
  obtain⟨h1,h2,h3⟩:=BK xs (jA acc x) nd2;refine⟨h1,λs=>?_,?_⟩
  ·show s∈xs.foldl jA (jA acc x)↔_
   rw[h2,mem,Zaw,or_assoc]
  ·show(xs.foldl jA (jA acc x)).length<=_
   rw[Zaz];lia
theorem PL(xs:List Sk):(ddp xs).Nodup:=(BK xs [] List.nodup_nil).1
theorem gV{xs:List Sk}{s:Sk}:s∈ddp xs↔s∈xs:=by have:=(BK xs [] List.nodup_nil).2.1 s;simpa[ddp] using this
theorem BL(xs:List Sk):(ddp xs).length<=xs.length:=by have:=(BK xs [] List.nodup_nil).2.2;simpa[ddp] using this
theorem Fq{f:Sk->PV}{s:Sk}:∀ {ks:List Sk},cQ (ks.map λt=>(skK t,f t)) (skK s)=if s∈ks then some (f s) else none
 |[]=>rfl
 |t::ks=>by
  rw[Zan];unfold cQ;by_cases e:t=s
  ·subst e;rw[Zag rfl,Zag List.mem_cons_self]
  ·rw[Zae (λz=>e (uY z)),Fq];by_cases h:s∈ks
   ·rw[Zag h,Zag (List.mem_cons_of_mem _ h)]
   ·rw[Zae h,Zae (λz=>h ((Zaw.mp z).resolve_left (ZaX e)))]
theorem JP{f:Sk->PV}{s:Sk}{p:PV}:∀ {ks:List Sk},ks.Nodup->bM (ks.map λt=>(skK t,f t)) (skK s) p=(jA ks s).map λt=>(skK t,if t=s then p else f t)
 |[],_=>by simp[bM,jA]
 |t::ks,nd=>by
  rw[Zbv] at nd;have ih:=JP (f:=f) (s:=s) (p:=p) nd.2;rw[Zan];unfold bM;by_cases e:t=s
  ·subst e;rw[Zag rfl,show jA (t::ks) t=t::ks from Zag List.mem_cons_self,Zan,Zag rfl];congr 1
   exact Za4 λu hu=>by rw[Zae (λz=>nd.1 (by rw[<-z];exact hu))]
  ·rw[Zae (λz=>e (uY z)),ih];have:jA (t::ks) s=t::jA ks s:=by
    unfold jA;by_cases h:s∈ks
    ·rw[Zag h,Zag (List.mem_cons_of_mem _ h)]
    ·rw[Zae h,Zae (λz=>h ((Zaw.mp z).resolve_left (ZaX e)))];rfl
   rw[this,Zan,Zae e]
def jw(r c:Int×Int->Sk)(cs:List (Int×Int))(s:Sk):List PV:=(cs.filter λx=>decide (r x=s)).map λx=>skP (c x)
def jx(r c:Int×Int->Sk)(cs:List (Int×Int)):List (List Key×PV):=(ddp (cs.map r)).map λs=>(skK s,.lst (jw r c cs s))
theorem Ft{r c:Int×Int->Sk}{cs:List (Int×Int)}{s:Sk}(h:s ∉ ddp (cs.map r)):jw r c cs s=[]:=by
 unfold jw;rw[ZbW.mpr λx hx=>?_]
 ·rfl
 ·simp only[decide_eq_true_eq];exact λe=>h (gV.mpr (Zas.mpr ⟨x,hx,e⟩))
theorem Li{r c:Int×Int->Sk}{cs:List (Int×Int)}{s:Sk}:(cQ (jx r c cs) (skK s)).getD (.lst [])=.lst (jw r c cs s):=by
 unfold jx;rw[Fq (f:=λs=>.lst (jw r c cs s))];by_cases h:s∈ddp (cs.map r)
 ·rw[Zag h];rfl
 ·rw[Zae h,Ft h];rfl
theorem HQ{r c:Int×Int->Sk}{cs:List (Int×Int)}{x:Int×Int}:bM (jx r c cs) (skK (r x)) (.lst (jw r c cs (r x)++[skP (c x)]))=jx r c (cs++[x]):=by
 unfold jx;rw[JP (f:=λs=>.lst (jw r c cs s)) (PL _),Zbc,Zan,List.map_nil,PK];refine Za4 λt _=>?_;congr 1
 unfold jw;rw[List.filter_append,Zbc];by_cases e:t=r x
 ·rw[Zag e,e];simp
 ·rw[Zae e];rw[show List.filter (λx=>decide (r x=t)) [x]=[] by simp[ZaX e]]
  simp
theorem Lj{i:Nat}{fk fe:Fn PV}{ρ:Rho}{l:List (List Key×PV)}{s:Sk}{row:List PV}{q:PV}{QS:Out->Prop}(hl:ρ[i]?=some (some (.dp (.dt l))))(len:l.length<sizeLine)(hk:fk ρ=some (.ok (skP s)))(hr:(cQ l (skK s)).getD (.lst [])=.lst row)
  (he:fe (ρ.set i (some (.dp (.dt (bM l (skK s) (.lst row))))))=some (.ok q))(st:q.still=true)(rl:row.length<sizeLine)(hq:QS (.nx (ρ.set i (some (.dp (.dt (bM l (skK s) (.lst (row++[q])))))))))
  : To (rC i fk fe ρ) QS:=by
 refine⟨.nx _,?_,trivial,hq⟩;unfold rC;rw[show Ay i ρ=some (.dt l) by unfold Ay;rw[hl]]
 simp only[Zag len,hk,fP];show(match dY (.str s.1::s.2.map PV.int) with
   |some k=>_
   |none=>_)=_
 rw[tM];simp only[hr,he,fP];rw[Zag ⟨st,rl⟩]
noncomputable abbrev bI(w h:Int)(away:Nat):List (Int×Int):=Mth.pick w.toNat (w.toNat*h.toNat) λi=>away.testBit i
theorem qd{w h:Int}{away:Nat}{c:Int×Int}(hc:c∈bI w h away):Cell w h c.1 c.2/\away.testBit (Mth.pl w.toNat c)=true:=by
 unfold bI Mth.pick at hc;obtain⟨i,hi,rfl⟩:=Zas.mp hc;obtain⟨h1,h2⟩:=ZaG.mp hi;exact⟨Cell.of (Mth.yG (ZaA.mp h1)),by rw[Mth.yF];exact h2⟩
theorem PN{w h:Int}(sz:Sz w h)(away keep:Nat)(dis:∀ c∈bI w h away,keep.testBit (Mth.pl w.toNat c)=false) :
  iz [.tup [.int w,.int h],.int away,.int keep]=some (.ok (.dt (jx (stS w h keep true) (stS w h keep false) (bI w h away)))):=by
 obtain⟨d1,e1,k1⟩:=PJ sz keep true;obtain⟨d2,e2,k2⟩:=PJ sz keep false;have hn:=sz.nat;have ln:(bI w h away).length<=576:=ZaF (Mth.jY _ _ _) hn.2
 suffices hh:∃ p,iz [.tup [.int w,.int h],.int away,.int keep]=some (.ok p)/\p=.dt (jx (stS w h keep true) (stS w h keep false) (bI w h away)) by
  obtain⟨p,e,rfl⟩:=hh;exact e
 refine Jw ?_;unfold nj;rw[show startR [.tup [.int w,.int h],.int away,.int keep] 4=[some (.sh (.tup [.int w,.int h])),some (.sh (.int away)),some (.sh (.int keep)),none,none,none,none] from rfl];walk_at "rd"
 rw[show PV.str "row"=.str (kJ true) from rfl,e1];walk_at "rd"
 rw[show PV.str "column"=.str (kJ false) from rfl,e2];walk_at "rd"
 refine⟨.dt [],rfl,?_⟩;rw[jM sz away];walk_at "rd"
 refine dF (I:=λi ρ=>∃ v6:Option Sl,ρ=[some (.sh (.tup [.int w,.int h])),some (.sh (.int away)),some (.sh (.int keep)),some (.sh (.dt d1)),some (.sh (.dt d2)),some (.dp (.dt (jx (stS w h keep true) (stS w h keep false) ((bI w h away).take i)))),v6]) ⟨none,rfl⟩ ?_ ?_
 case refine_2=>
  rintro ρ ⟨v6,rfl⟩;walk_at "rd"
  unfold oY;walk_at "rd"
  rw[List.length_map,List.take_length]
 rintro i x ρ hx ⟨v6,rfl⟩;rw[List.getElem?_map] at hx;cases ec:(bI w h away)[i]? with
 |none=>rw[ec] at hx;cases hx
 |some c=>
  rw[ec] at hx;cases hx;have hc:=Zal ec;obtain⟨cl,_⟩:=qd hc;have no:=dis c hc;have il:i<(bI w h away).length:=(Zac.mp ec).1;have tl:((bI w h away).take i).length<=576:=by rw[List.length_take];lia
  have f1:eV (.dt d1) (cellP c)=some (some (skP (stS w h keep true c))):=Zbd some (k1 c cl no);have f2:eV (.dt d2) (cellP c)=some (some (skP (stS w h keep false c))):=Zbd some (k2 c cl no);unfold oX;refine Lj (s:=stS w h keep true c) (row:=jw (stS w h keep true) (stS w h keep false) ((bI w h away).take i) (stS w h keep true c)) (q:=skP (stS w h keep false c)) rfl (xu ?_) (jE ?_) Li (jE ?_) (xx _) (xu ?_) ?_
  ·unfold jx;rw[List.length_map];have:=BL (((bI w h away).take i).map (stS w h keep true));rw[List.length_map] at this;lia
  ·walk_at "rd"
   exact⟨_,f1,rfl⟩
  ·walk_at "rd"
   exact⟨_,f2,rfl⟩
  ·unfold jw;rw[List.length_map];have:=Za1 (λx=>decide (stS w h keep true x=stS w h keep true c)) ((bI w h away).take i);lia
  ·rw[HQ,<-take_snoc ec];exact⟨_,rfl⟩
structure KOk(ks:List Sk):Prop where
 nd:ks.Nodup
 ln:∀ s∈ks,s.2.length=3
 tx:∀ s∈ks,s.1≠("":Str)
def eU(ks:List Sk)(i:Nat):Sk:=if i<ks.length then ks.getD i default else(("":Str),[(i:Int),0,0])
section
variable{ks:List Sk}
theorem lO{i:Nat}(h:i<ks.length):eU ks i∈ks:=by
 unfold eU;rw[Zag h,List.getD_eq_getElem?_getD,List.getElem?_eq_getElem h];exact List.getElem_mem h
theorem BP{i:Nat}(h:i<ks.length):ks[i]?=some (eU ks i):=by
 unfold eU;rw[Zag h,List.getD_eq_getElem?_getD,List.getElem?_eq_getElem h];rfl
theorem KOk.inj(k:KOk ks)(i j:Nat)(e:eU ks i=eU ks j):i=j:=by
 by_cases hi:i<ks.length
 ·by_cases hj:j<ks.length
  ·exact(List.getElem?_inj hi k.nd).mp (by rw[BP hi,BP hj,e])
  ·have:=k.tx _ (lO hi);rw[e] at this;unfold eU at this;rw[Zae hj] at this;exact absurd rfl this
 ·by_cases hj:j<ks.length
  ·have:=k.tx _ (lO hj);rw[<-e] at this;unfold eU at this;rw[Zae hi] at this;exact absurd rfl this
  ·unfold eU at e;rw[Zae hi,Zae hj] at e;have e:=(Prod.mk.inj e).2;rw[Zbw] at e;omega
theorem KOk.l3(k:KOk ks)(i:Nat):(eU ks i).2.length=3:=by
 by_cases hi:i<ks.length
 ·exact k.ln _ (lO hi)
 ·unfold eU;rw[Zae hi];rfl
def PP(ks:List Sk)(s:Sk):Nat:=ks.findIdx λt=>decide (t=s)
theorem HR{s:Sk}(h:s∈ks):PP ks s<ks.length/\eU ks (PP ks s)=s:=by
 have hl:PP ks s<ks.length:=List.findIdx_lt_length_of_exists ⟨s,h,by simp⟩
 refine⟨hl,?_⟩;have:=List.findIdx_getElem (w:=hl);simp only[decide_eq_true_eq] at this;unfold eU;rw[Zag hl,List.getD_eq_getElem?_getD,List.getElem?_eq_getElem hl];exact this
end
def Gof{ks ls:List Sk}(h1:KOk ks)(h2:KOk ls):Gs:=⟨eU ks,eU ls,h1.inj,h2.inj,h1.l3,h2.l3⟩
def Wof(r c:Int×Int->Sk)(cs:List (Int×Int))(i:Nat):List Nat:=(cs.filter λx=>decide (r x=eU (ddp (cs.map r)) i)).map λx=>PP (ddp (cs.map c)) (c x)
section
variable{r c:Int×Int->Sk}{cs:List (Int×Int)}
theorem V8{i g:Nat}(h:g∈Wof r c cs i):g<(ddp (cs.map c)).length:=by
 obtain⟨x,hx,rfl⟩:=Zas.mp h;exact(HR (gV.mpr (Zas.mpr ⟨x,(ZaG.mp hx).1,rfl⟩))).1
theorem PQ{i g:Nat}(h:g∈Wof r c cs i):∃ x∈cs,r x=eU (ddp (cs.map r)) i/\c x=eU (ddp (cs.map c)) g:=by
 obtain⟨x,hx,rfl⟩:=Zas.mp h;have h1:=ZaG.mp hx;exact⟨x,h1.1,by simpa using h1.2,(HR (gV.mpr (Zas.mpr ⟨x,h1.1,rfl⟩))).2.symm⟩
theorem XC(h1:KOk (ddp (cs.map r)))(h2:KOk (ddp (cs.map c))):PV.dt (jx r c cs)=wiP (Gof h1 h2) (ddp (cs.map r)).length (Wof r c cs):=by
 unfold wiP jx;congr 1
 apply ZbA
 intro i;rw[List.getElem?_map,List.getElem?_map];by_cases hi:i<(ddp (cs.map r)).length
 ·rw[Zbm hi,BP hi];show some (_,_)=some (_,_)
  congr 2
  show PV.lst _=PV.lst _
  congr 1
  unfold jw Gs.GL Wof;rw[List.map_map];refine Za4 λx hx=>?_;show skP (c x)=skP (eU (ddp (cs.map c)) (PP (ddp (cs.map c)) (c x)))
  rw[(HR (gV.mpr (Zas.mpr ⟨x,(ZaG.mp hx).1,rfl⟩))).2]
 ·rw[ZaL (by simpa using hi),ZaL (by simpa using hi)];rfl
end
noncomputable abbrev StB:=Bool×Int×Int×Int
theorem jN(a b:Nat):Builtin.bitAnd (a:Int) (b:Int)=((a &&& b:Nat):Int):=by
 rw[bitAnd_pp (Zbr _) (Zbr _),ZaQ,ZaQ]
theorem BR(w h:Int)(keep:Nat)(row:Bool)(cs:List (Int×Int)):KOk (ddp (cs.map (stS w h keep row))) where
 nd:=PL _
 ln:=λs hs=>by obtain⟨x,_,rfl⟩:=Zas.mp (gV.mp hs);rfl
 tx:=λs hs=>by
  obtain⟨x,_,rfl⟩:=Zas.mp (gV.mp hs);cases row
  ·show Str.ofString "column"≠_;decide
  ·show Str.ofString "row"≠_;decide
section
variable{w h:Int}{away keep:Nat}{A B B':List (Nat×Nat)}{R:List Nat}{cb:List (Nat×Nat)}
noncomputable abbrev ksN(w h:Int)(away keep:Nat)(row:Bool):List Sk:=ddp ((bI w h away).map (stS w h keep row))
noncomputable abbrev WN(w h:Int)(away keep:Nat):Nat->List Nat:=Wof (stS w h keep true) (stS w h keep false) (bI w h away)
def Lk(w h:Int)(away keep:Nat)(R:List Nat)(cb:List (Nat×Nat)):List Sk:=((List.range (ksN w h away keep true).length).filter λa=>!R.contains a).map (eU (ksN w h away keep true))++cb.map λp=>eU (ksN w h away keep false) p.1
theorem SM{s:Sk}(wl:∀ p∈cb,p.1<(ksN w h away keep false).length)(hs:s∈Lk w h away keep R cb):∃ row,∃ x∈bI w h away,s=stS w h keep row x:=by
 rcases Zah.mp hs with hs|hs
 ·obtain⟨a,ha,rfl⟩:=Zas.mp hs;obtain⟨x,hx,e⟩:=Zas.mp (gV.mp (lO (ZaA.mp (ZaG.mp ha).1)));exact⟨true,x,hx,e.symm⟩
 ·obtain⟨p,hp,rfl⟩:=Zas.mp hs;obtain⟨x,hx,e⟩:=Zas.mp (gV.mp (lO (wl p hp)));exact⟨false,x,hx,e.symm⟩
theorem SN{n:Nat}{W:Nat->List Nat}(hn:n=(ksN w h away keep true).length)(P:Pm n W A B)(hB:∀ g a,lk B' g=some a↔lk B g=some a)(hw:Wk n W B' (lZ n A) R cb):(Lk w h away keep R cb).length=A.length:=by
 subst hn;have nd:=Wk.ndR P hB hw;have hl:=hw.len;have two:∀ (t:Nat->Bool) (l:List Nat),(l.filter t).length+(l.filter λa=>!t a).length=l.length:=λt l=>by
  induction l with
  |nil=>rfl
  |cons a l ih=>cases ht:t a<;>simp[ZbT,ht]<;>lia
 have t1:=two (λa=>R.contains a) (List.range (ksN w h away keep true).length);have t2:=two (λa=>(lk A a).isNone) (List.range (ksN w h away keep true).length);have e1:((List.range (ksN w h away keep true).length).filter λa=>R.contains a).length=R.length:=by
  refine Nat.le_antisymm (cJ (List.Nodup.sublist ZbG ZbS) λx hx=>?_) (cJ nd λx hx=>?_)
  ·simpa using(ZaG.mp hx).2
  ·exact ZaG.mpr ⟨ZaA.mpr (hw.lt x hx),by simpa using hx⟩
 have e2:((List.range (ksN w h away keep true).length).filter λa=>!(lk A a).isNone).length=A.length:=by
  have el:(A.map (·.1)).length=A.length:=List.length_map _;rw[<-el];refine Nat.le_antisymm (cJ (List.Nodup.sublist ZbG ZbS) λx hx=>?_) (cJ P.ndA λx hx=>?_)
  ·have:=(ZaG.mp hx).2;cases e:lk A x with
   |none=>rw[e] at this;cases this
   |some g=>exact Zas.mpr ⟨_,Bv e,rfl⟩
  ·cases e:lk A x with
   |none=>exact absurd hx (lN.mp e)
   |some g=>exact ZaG.mpr ⟨ZaA.mpr (P.ok e).2,by rw[e];rfl⟩
 unfold Lk;rw[List.length_append,List.length_map,List.length_map];unfold lZ at hl;lia
theorem V9(nd:(cb.map (·.1)).Nodup)(wl:∀ p∈cb,p.1<(ksN w h away keep false).length):(Lk w h away keep R cb).Nodup:=by
 unfold Lk;rw[ZbC];refine⟨?_,?_,λs hs t ht e=>?_⟩
 ·rw[List.Nodup,Zbn];exact(List.Nodup.sublist ZbG ZbS).imp λhne e=>hne ((BR w h keep true _).inj _ _ e)
 ·rw[List.Nodup,Zbn];rw[List.Nodup,Zbn] at nd;exact nd.imp λhne e=>hne ((BR w h keep false _).inj _ _ e)
 ·obtain⟨a,ha,rfl⟩:=Zas.mp hs;obtain⟨p,hp,rfl⟩:=Zas.mp ht;obtain⟨x,hx,e1⟩:=Zas.mp (gV.mp (lO (ZaA.mp (ZaG.mp ha).1)));obtain⟨y,hy,e2⟩:=Zas.mp (gV.mp (lO (wl p hp)));rw[<-e1,<-e2] at e;have e:=(Prod.mk.inj e).1;exact absurd e (by decide)
end
theorem Qa{s:Sk}(h:s.2.length=3):cY (skP s) (.int 1)=some (.ok (.int (s.2.getD 0 0))):=by
 obtain⟨t,l⟩:=s
 match l,h with
 |[a,b,c],_=>rfl
theorem Fv(n:Nat):∀ (l m:List Int),eqL (eqF n) (l.map PV.int) (m.map PV.int)=some (decide (l=m))
 |[],[]=>rfl
 |[],b::m=>rfl
 |a::l,[]=>rfl
 |a::l,b::m=>by
  rw[Zan,Zan,eqL,eqF_int,Fv n l m];simp only[Zbw];by_cases h:a=b<;>simp[h]
theorem Wa(n:Nat)(p q:Sk):eqF (n+1) (skP p) (skP q)=some (decide (p=q)):=by
 show eqL (eqF n) (.str p.1::p.2.map PV.int) (.str q.1::q.2.map PV.int)=_
 rw[eqL,eqF_str,Fv];have:(p=q)↔(p.1=q.1/\p.2=q.2):=Prod.ext_iff;by_cases h:p.1=q.1<;>simp[this,h]
theorem Wb{p:Sk}{l:List Sk}:inU (skP p) (.lst (l.map skP))=some (decide (p∈l)):=R8 (λa b=>Wa 30 a b) p l
theorem zJ(ns:List Int)(k:Nat)(hk:k<=3000):∃ n:Int,d8 [.lst (ns.map .int),.int k]=some (.ok (.int n)):=by
 suffices h:∃ p,d8 [.lst (ns.map .int),.int k]=some (.ok p)/\∃ n,p=.int n by
  obtain⟨p,e,n,rfl⟩:=h;exact⟨n,e⟩
 refine Bo ?_;unfold nq;walk_at "rd"
 rw[List.length_map];refine CV (λh=>?_) (λh=>?_)
 ·unfold oZ;walk_at "rd"
  exact⟨_,zr (by lia) h,_,rfl⟩
 ·unfold o8;have kk:(k:Int)*k<=3000*3000:=Int.mul_le_mul (by lia) (by lia) (by lia) (by decide)
  have kk0:0<=(k:Int)*k:=Int.mul_nonneg (by lia) (by lia)
  walk_at "rd"
  rw[List.length_map];refine⟨.inl ⟨by lia,by lia⟩,CV (λh0=>?_) (λh0=>?_)⟩
  ·unfold o7;walk_at "rd"
   rw[List.length_map];refine⟨.inl ⟨by lia,by lia⟩,by lia,_,zr (Zbl _ (by lia)) (ZaZ _ (by lia)),?_⟩
   walk_at "rd"
   generalize hq:ns.getD ((k:Int)*7%ns.length).toNat 0%2147483629=q
   have q0:0<=q:=by rw[<-hq];exact Zbl _ (by decide)
   have q1:q<2147483629:=by rw[<-hq];exact ZaZ _ (by decide)
   unfold jV;walk_at "rd"
   exact⟨by decide,.inl ⟨by lia,by lia⟩,by decide,_,rfl⟩
  ·unfold jV;walk_at "rd"
   exact⟨.inl ⟨by lia,by lia⟩,by decide,_,rfl⟩
theorem lQ(c:Int)(k:Nat)(hk:k<=3000):∃ n:Int,cI [.int c,.int k]=some (.ok (.int n))/\0<=n/\n<2147483648:=by
 suffices h:∃ p,cI [.int c,.int k]=some (.ok p)/\∃ n,p=.int n/\0<=n/\n<2147483648 by
  obtain⟨p,e,n,rfl,h⟩:=h;exact⟨n,e,h⟩
 refine Bo ?_;unfold lL;walk_at "rd"
 refine⟨by decide,by decide,by decide,CV (λh=>?_) (λh=>?_)⟩
 ·unfold nu;walk_at "rd"
  have c0:0<=c/2^(31*(k:Int)).toNat:=Int.ediv_nonneg (Int.le_trans (by decide) h) (Int.le_of_lt (Int.pow_pos (by decide)))
  rw[bitAnd_pp c0 (by decide)]
  refine⟨.inl ⟨by decide,by decide⟩,by omega,Zbr _,?_⟩
  have:=@Nat.and_le_right (c/2^(31*(k:Int)).toNat).toNat (2147483647:Int).toNat;have e:(2147483647:Int).toNat=2147483647:=rfl;rw[e] at this ⊢;omega
 ·unfold nA;have k1:7919*(k:Int)*k<=23757000*3000:=Int.mul_le_mul (by omega) (by omega) (by omega) (by decide)
  have k0:0<=7919*(k:Int)*k:=Int.mul_nonneg (by omega) (by omega)
  have m0:0<=c%2147483629:=Zbl _ (by decide)
  have m1:c%2147483629<2147483629:=ZaZ _ (by decide)
  walk_at "rd"
  generalize hq:(c%2147483629+7919*(k:Int)*k+k+13)*48271%2147483587=q
  have q0:0<=q:=by rw[<-hq];exact Zbl _ (by decide)
  have q1:q<2147483587:=by rw[<-hq];exact ZaZ _ (by decide)
  generalize hz:q*q%2147483629=z
  have z0:0<=z:=by rw[<-hz];exact Zbl _ (by decide)
  have z1:z<2147483629:=by rw[<-hz];exact ZaZ _ (by decide)
  refine⟨by decide,.inl ⟨by decide,by decide⟩,.inl ⟨by omega,by omega⟩,.inl ⟨by omega,by omega⟩,by decide,.inl ⟨by omega,by omega⟩,by decide,.inl ⟨by omega,by omega⟩,by decide,Zbl _ (by decide),?_⟩
  have:=ZaZ ((z+(k:Int))*69621) (b:=2147483563) (by decide)
  omega
theorem Fw{w h:Int}(sz:Sz w h)(c:Int)(k:Nat)(hk:k<=90):∃ n:Nat,gJ [.tup [.int w,.int h],.int c,.int k]=some (.ok (.int n))/\n<2^(w.toNat*h.toNat):=by
 suffices hh:∃ p,gJ [.tup [.int w,.int h],.int c,.int k]=some (.ok p)/\∃ n:Nat,p=.int n/\n<2^(w.toNat*h.toNat) by
  obtain⟨p,e,n,rfl,q⟩:=hh;exact⟨n,e,q⟩
 have hm:=sz.mul;have hN:=sz.nat;have w0:=sz.w0;have w1:=sz.w1;have h0:=sz.h0;have h1:=sz.h1;refine Bo (x:=lM (startR [.tup [.int w,.int h],.int c,.int k] 4)) ?_;unfold lM;rw[show startR [.tup [.int w,.int h],.int c,.int k] 4=[some (.sh (.tup [.int w,.int h])),some (.sh (.int c)),some (.sh (.int k)),none,none,none,none] from rfl];walk_at "rd"
 refine⟨.inl ⟨by lia,by lia⟩,by decide,by decide,by lia,by lia,?_⟩
 have np:((1:Int)*2^(w*h).toNat)=((2^(w.toNat*h.toNat):Nat):Int):=by rw[hN.1];simp
 refine dF (I:=λi ρ=>∃ (n:Int) (v5:Option Sl),ρ=[some (.sh (.tup [.int w,.int h])),some (.sh (.int c)),some (.sh (.int k)),some (.sh (.int (w*h))),some (.sh (.int n)),v5,none]/\0<=n) ⟨0,none,rfl,by decide⟩ ?_ ?_
 ·rintro i x ρ hx ⟨n,v5,rfl,n0⟩;obtain⟨hi,rfl⟩:=rW hx;have hi2:i<=20:=by lia
  obtain⟨q,eq,q0,q1⟩:=lQ c (30*k+i) (by lia)
  unfold rN;walk_at "rd"
  rw[show(30*(k:Int)+(0+(i:Int)))=((30*k+i:Nat):Int) by push_cast;lia,eq]
  walk_at "rd"
  exact⟨.inr ⟨by decide,by decide⟩,.inl ⟨by decide,by decide⟩,_,_,rfl,by lia⟩
 ·rintro ρ ⟨n,v5,rfl,n0⟩;obtain⟨q,eq,q0,q1⟩:=lQ c (30*k+29) (by lia)
  walk_at "rd"
  unfold rT;walk_at "rd"
  have pp:(0:Int)<1*2^(w*h).toNat:=by rw[np];exact Int.natCast_pos.mpr (Nat.two_pow_pos _)
  refine⟨by lia,by lia,by decide,pp,.inl ⟨by decide,by decide⟩,?_⟩
  rw[show(30*(k:Int)+29)=((30*k+29:Nat):Int) by push_cast;lia,eq]
  walk_at "rd"
  have m0:=Zbl n (Int.ne_of_gt pp);have m1:=ZaZ n pp;refine⟨by decide,CV (λ_=>?_) (λ_=>?_)⟩
  ·unfold rO;walk_at "rd"
   refine⟨by lia,by lia,by decide,2^(w.toNat*h.toNat)-1,?_,by have:=Nat.two_pow_pos (w.toNat*h.toNat);lia⟩
   rw[np];have:=Nat.two_pow_pos (w.toNat*h.toNat);congr 1
   lia
  ·unfold rR;walk_at "rd"
   refine CV (λ_=>?_) (λ_=>?_)
   ·unfold rP;walk_at "rd"
    exact⟨0,rfl,Nat.two_pow_pos _⟩
   ·unfold rQ;walk_at "rd"
    refine⟨(n%(1*2^(w*h).toNat)).toNat,by rw[ZbE m0],?_⟩
    rw[np] at m1 m0 ⊢;lia
theorem Qc(a:Nat):∀ b:Nat,a+b=(a ^^^ b)+2*(a &&& b):=by
 induction a using Nat.strongRecOn with
 |_ a ih=>
  intro b;by_cases h:a=0
  ·subst h;simp
  ·have this:=ih (a/2) (by lia) (b/2)
   have e1:(a ^^^ b)/2=(a/2) ^^^ (b/2):=Nat.xor_div_two;have e2:(a &&& b)/2=(a/2) &&& (b/2):=Nat.and_div_two;have t1:=Nat.testBit_xor a b 0;have t2:=Nat.testBit_and a b 0;rw[<-e1,<-e2] at this;simp only[Nat.testBit_zero] at t1 t2;generalize a ^^^ b=x at *
   generalize a &&& b=y at *
   rcases Nat.mod_two_eq_zero_or_one a with p|p<;>rcases Nat.mod_two_eq_zero_or_one b with q|q<;>rw[p,q] at t1 t2<;>simp at t1 t2<;>lia
theorem xM(a s i:Nat):(a-(a &&& s)).testBit i=(a.testBit i&&!s.testBit i):=by
 have e:a-(a &&& s)=a ^^^ (a &&& s):=by
  have:=Qc a (a &&& s);rw[<-Nat.and_assoc,Nat.and_self] at this;lia
 rw[e,Nat.testBit_xor,Nat.testBit_and];cases a.testBit i<;>cases s.testBit i<;>rfl
theorem Fx{w h:Int}(sz:Sz w h){away keep:Nat}(dis:∀ c∈bI w h away,keep.testBit (Mth.pl w.toNat c)=false)(none_:away &&& keep=0) :
  ∃ (S:List Sk) (T:List PV),du [.tup [.int w,.int h],.int away,.int keep]=some (.ok (.tup [.lst (S.map skP),.lst T])):=by
 have hn:=sz.nat;have ln:(bI w h away).length<=576:=ZaF (Mth.jY _ _ _) hn.2;have k1:=BR w h keep true (bI w h away);have k2:=BR w h keep false (bI w h away);have n1:(ksN w h away keep true).length<=576:=ZaF (BL _) (by rw[List.length_map];exact ln)
 have n2:(ksN w h away keep false).length<=576:=ZaF (BL _) (by rw[List.length_map];exact ln)
 have wl:∀ i g,g∈WN w h away keep i->g<(ksN w h away keep false).length:=λi g hg=>V8 hg;obtain⟨A,B,eM,P,Dd,cD,hd⟩:=Su (G:=Gof k1 k2) (n:=(ksN w h away keep true).length) (N:=(ksN w h away keep false).length) (W:=WN w h away keep) (by omega) (by omega) wl
 obtain⟨B',R,cb,eS,hB,hw,hc⟩:=Pn (G:=Gof k1 k2) (n:=(ksN w h away keep true).length) (N:=(ksN w h away keep false).length) (W:=WN w h away keep) (by omega) (by omega) wl P cD hd
 have wlc:∀ p∈cb,p.1<(ksN w h away keep false).length:=λp hp=>wl _ _ (hw.wish p hp);have lc:cb.length<=576:=ZaF (hw.xG wl) n2;have eX:=PN sz away keep dis;rw[XC k1 k2] at eX
 let ps:List (Int×Int):=A.map λp=>((eU (ksN w h away keep false) p.2).2.getD 0 0,(eU (ksN w h away keep true) p.1).2.getD 0 0)
 have hps:∀ c∈ps,Cell w h c.1 c.2:=λc hc=>by
  obtain⟨p,hp,rfl⟩:=Zas.mp hc;obtain⟨x,hx,e1,e2⟩:=PQ (P.ok (xn P.ndA (show(p.1,p.2)∈A from hp))).1;rw[<-e1,<-e2];exact(qd hx).1
 let S0:List Sk:=((List.range (ksN w h away keep true).length).filter λa=>!R.contains a).map (eU (ksN w h away keep true))++tO (cb.map λp=>eU (ksN w h away keep false) p.1)
 have pS:S0.Perm (Lk w h away keep R cb):=Za2 _ (tQ _);refine⟨tO S0,(bI w h (Mth.Kc w.toNat ps)).map cellP,?_⟩;refine jo (x:=cg (startR [.tup [.int w,.int h],.int away,.int keep] 6)) ?_;unfold cg;rw[show startR [.tup [.int w,.int h],.int away,.int keep] 6=[some (.sh (.tup [.int w,.int h])),some (.sh (.int away)),some (.sh (.int keep)),none,none,none,none,none,none] from rfl];walk_at "rd"
 have eN:bI w h 0=[]:=by
  unfold bI Mth.pick;rw[ZbW.mpr λi _=>by simp]
  rfl
 rw[jN,none_,jM sz 0,show Mth.pick w.toNat (w.toNat*h.toNat) (λi=>(0:Nat).testBit i)=[] from eN];walk_at "rd"
 rw[Zae (by simp)]
 unfold jt;walk_at "rd"
 rw[eX];walk_at "rd"
 rw[eM];walk_at "rd"
 rw[eS];walk_at "rd"
 rw[show wiP (Gof k1 k2) (ksN w h away keep true).length (WN w h away keep)=.dt ((List.range (ksN w h away keep true).length).map λ(i:Nat)=>((Gof k1 k2).aK i,PV.lst ((Gof k1 k2).GL (WN w h away keep i)))) from rfl,xH,Bw];have big:∀ {k:Nat},k<=9000->k<=sizeLine:=λh=>ZaM (xu (by omega))
 refine⟨rfl,by unfold Gs.AL;rw[List.length_map,List.length_range];exact big (by omega),?_⟩
 rw[show(Gof k1 k2).AL (List.range (ksN w h away keep true).length)=(List.range (ksN w h away keep true).length).map (Gof k1 k2).av from rfl,ju (Gof k1 k2).av (λa=>!R.contains a) (Gof k1 k2).av (List.range (ksN w h away keep true).length) λa _=>⟨_,rfl,jE ?t1,λ_=>rfl⟩,tv_some]
 case t1=>
  walk_at "rd"
  refine⟨_,Wb,?_⟩;have:eU (ksN w h away keep true) a∈tO (R.map (Gof k1 k2).aS)↔a∈R:=by
   rw[(tQ _).mem_iff];constructor
   ·intro hm;obtain⟨b,hb,e⟩:=Zas.mp hm;rw[<-k1.inj b a e];exact hb
   ·exact λhm=>Zas.mpr ⟨a,hm,rfl⟩
  show(!decide (eU (ksN w h away keep true) a∈tO (R.map (Gof k1 k2).aS)))=_
  by_cases hm:a∈R
  ·rw[ZaB (this.mpr hm),List.contains_iff_mem.mpr hm]
  ·rw[ZaC (λz=>hm (this.mp z))];have:R.contains a=false:=by simpa using hm
   rw[this]
 have ls:(tO (cb.map λp=>(Gof k1 k2).gS p.1)).length=cb.length:=by rw[(tQ _).length_eq,List.length_map]
 have lf:((List.range (ksN w h away keep true).length).filter λa=>!R.contains a).length<=576:=ZaF (Za1 _ _) (by rw[List.length_range];exact n1)
 refine⟨by rw[List.length_map,List.length_map,ls];exact big (by omega),rfl,?_⟩
 rw[show(Gof k1 k2).GA A=.dt (kvQ (Gof k1 k2).aK (Gof k1 k2).gv A) from rfl,zF,Fj];have lA:A.length<=576:=ZaF (nJ P.ndA λx hx=>by
  obtain⟨p,hp,rfl⟩:=Zas.mp hx;exact(P.ok (xn P.ndA (show(p.1,p.2)∈A from hp))).2) n1
 refine⟨by rw[List.length_map];exact big (by omega),?_⟩
 rw[ju (λp:Nat×Nat=>PV.tup [(Gof k1 k2).av p.1,(Gof k1 k2).gv p.2]) (λ_=>true) (λp=>cellP ((eU (ksN w h away keep false) p.2).2.getD 0 0,(eU (ksN w h away keep true) p.1).2.getD 0 0)) A λp _=>⟨_,rfl,rfl,λ_=>jE ?t2⟩,tv_some]
 case t2=>
  walk_at "rd"
  rw[show(Gof k1 k2).gv p.2=skP (eU (ksN w h away keep false) p.2) from rfl,Qa (k2.l3 _),tv_some,show(Gof k1 k2).av p.1=skP (eU (ksN w h away keep true) p.1) from rfl,Qa (k1.l3 _),tv_some];exact⟨by decide,rfl⟩
 rw[ZbQ.mpr λ_ _=>rfl,show(A.map λp=>cellP ((eU (ksN w h away keep false) p.2).2.getD 0 0,(eU (ksN w h away keep true) p.1).2.getD 0 0))=ps.map cellP by simp only[ps,List.map_map];rfl,Lf sz ps hps]
 walk_at "rd"
 have nS:S0.Nodup:=pS.nodup_iff.mpr (V9 hw.nd wlc);have mS:∀ s∈S0,s.2.length=3:=λs hs=>by obtain⟨row,x,_,rfl⟩:=SM wlc (pS.mem_iff.mp hs);rfl
 rw[show List.map (Gof k1 k2).av (List.filter (λa=>!R.contains a) (List.range (ksN w h away keep true).length))++List.map skP (tO (List.map (λp=>(Gof k1 k2).gS p.fst) cb))=S0.map skP by simp only[S0,Zbc,List.map_map];rfl,JN nS mS (xu (by rw[pS.length_eq,SN rfl P hB hw];omega)),tv_some,jM sz]
 walk_at "rd"
 first
  |exact⟨by decide,rfl⟩
  |decide
theorem Fy{w h:Int}(sz:Sz w h){away keep:Nat}{c:Int×Int}{cs:List (Int×Int)}(e:bI w h (away &&& keep)=c::cs) :
  du [.tup [.int w,.int h],.int away,.int keep]=some (.ex (.exc "Kept" [("column",.int c.1),("row",.int c.2)])):=by
 show fin (cg (startR [.tup [.int w,.int h],.int away,.int keep] 6))=_
 rw[show cg (startR [.tup [.int w,.int h],.int away,.int keep] 6)=some (.ex (.exc "Kept" [("column",.int c.1),("row",.int c.2)])) from ?_]
 ·rfl
 unfold cg;rw[show startR [.tup [.int w,.int h],.int away,.int keep] 6=[some (.sh (.tup [.int w,.int h])),some (.sh (.int away)),some (.sh (.int keep)),none,none,none,none,none,none] from rfl];refine VP ?_;walk_at "rd"
 rw[jN,jM sz (away &&& keep),show Mth.pick w.toNat (w.toNat*h.toNat) (λi=>(away &&& keep).testBit i)=c::cs from e];walk_at "rd"
 refine VN (Xq ?_);walk_at "rd"
 rw[Zag (by omega)]
 unfold jr;refine O8 ?_;walk_at "rd"
 rfl
theorem HS(c:Int):∃ w h:Int,iB [.int c]=some (.ok (.tup [.int w,.int h]))/\Sz w h :=by
 suffices hh:∃ p,iB [.int c]=some (.ok p)/\∃ w h:Int,p=.tup [.int w,.int h]/\Sz w h  by
  obtain⟨p,e,w,h,rfl,q⟩:=hh;exact⟨w,h,e,q⟩
 obtain⟨a,ea,a0,a1⟩:=lQ c 3 (by decide)
 obtain⟨b,eb,b0,b1⟩:=lQ c 4 (by decide)
 refine Bo (x:=jJ (startR [.int c] 1)) ?_;unfold jJ;rw[show startR [.int c] 1=[some (.sh (.int c)),none] from rfl];walk_at "rd"
 rw[show(PV.int 3)=.int ((3:Nat):Int) from rfl,ea];walk_at "rd"
 rw[show(PV.int 4)=.int ((4:Nat):Int) from rfl,eb];walk_at "rd"
 refine⟨by decide,CV (λh=>?_) (λh=>?_)⟩
 ·unfold o9;walk_at "rd"
  have x0:=Zbl a (b:=24) (by decide)
  have x1:=ZaZ a (b:=24) (by decide)
  have y0:=Zbl (a/24) (b:=24) (by decide)
  have y1:=ZaZ (a/24) (b:=24) (by decide)
  exact⟨by decide,by decide,by decide,by decide,by decide,_,_,rfl,⟨by omega,by omega,by omega,by omega⟩⟩
 ·unfold pg;walk_at "rd"
  have x0:=Zbl a (b:=6) (by decide)
  have x1:=ZaZ a (b:=6) (by decide)
  have y0:=Zbl (a/6) (b:=6) (by decide)
  have y1:=ZaZ (a/6) (b:=6) (by decide)
  exact⟨by decide,by decide,by decide,by decide,by decide,_,_,rfl,⟨by omega,by omega,by omega,by omega⟩⟩
theorem HW{W n i:Nat}{f:Nat->Bool}(hi:i<n)(h0:∀ j,j<i->f j=false)(h1:f i=true):∃ cs,Mth.pick W n f=Mth.cellOf W i::cs:=by
 unfold Mth.pick;rw[show List.range n=List.range i++(List.range (n-i)).map (i+·) by rw[<-List.range_add];congr 1;omega,List.filter_append,ZbW.mpr λj hj=>by rw[h0 j (ZaA.mp hj)];decide,List.nil_append]
 obtain⟨m,hm⟩:∃ m,n-i=m+1:=⟨n-i-1,by omega⟩
 rw[hm,List.range_succ_eq_map,Zan,ZbT,Nat.add_zero,h1,Zag rfl,Zan];exact⟨_,rfl⟩
theorem zK{W n:Nat}{f:Nat->Bool}(h:∀ j,j<n->f j=false):Mth.pick W n f=[]:=by
 unfold Mth.pick;rw[ZbW.mpr λj hj=>by rw[h j (ZaA.mp hj)];decide]
 rfl
def Wc:List (Int×Int)->PV
 |[]=>.non
 |c::_=>.tup [.int c.1,.int c.2]
theorem Ln{w h:Int}(sz:Sz w h)(n:Nat):iT [.tup [.int w,.int h],.int n]=some (.ok (Wc (bI w h n))):=by
 have w0:=sz.w0;have w1:=sz.w1;have h0:=sz.h0;have h1:=sz.h1;refine jo (x:=iR (startR [.tup [.int w,.int h],.int n] 2)) (um λQS hQ=>?_);unfold iR;rw[show startR [.tup [.int w,.int h],PV.int n] 2=[some (.sh (.tup [.int w,.int h])),some (.sh (.int n)),none,none] from rfl];walk_at "rd"
 refine⟨by omega,by omega,?_⟩
 refine dF (λi ρ=>∃ v2 v3,ρ=[some (.sh (.tup [.int w,.int h])),some (.sh (.int n)),v2,v3]/\∀ j,j<i*w.toNat->n.testBit j=false) ⟨none,none,rfl,λj hj=>by rw[Nat.zero_mul] at hj;cases hj⟩ ?_ ?_
 ·rintro i x ρ hx ⟨v2,v3,rfl,hi⟩;obtain⟨hr,rfl⟩:=rW hx;rw[Int.zero_add];unfold nG;walk_at "rd"
  refine⟨by omega,by omega,?_⟩
  refine dF (λk ρ=>∃ v3,ρ=[some (.sh (.tup [.int w,.int h])),some (.sh (.int n)),some (.sh (.int i)),v3]/\∀ j,j<i*w.toNat+k->n.testBit j=false) ⟨v3,rfl,hi⟩ ?_ ?_
  ·rintro k x ρ hx ⟨v3,rfl,hk⟩;obtain⟨hc,rfl⟩:=rW hx;rw[Int.zero_add];unfold nF;walk_at "rd"
   have hb:=JG n ((i:Int)*w+(k:Int)).toNat;have iw:((i:Int)*w+(k:Int)).toNat=i*w.toNat+k:=by
    rw[show(i:Int)*w+(k:Int)=((i*w.toNat+k:Nat):Int) by push_cast;rw[ZbE (by omega)]]
    rfl
   have nn:0<=(i:Int)*w+(k:Int):=Int.add_nonneg (Int.mul_nonneg (by omega) (by omega)) (by omega)
   refine⟨.inl ⟨by omega,by omega⟩,nn,CV (λq=>?_) λq=>⟨_,rfl,λj hj=>?_⟩⟩
   ·rw[ZaB q,iw] at hb;have ei:i*w.toNat+k<w.toNat*h.toNat:=by
     have:(i+1)*w.toNat<=h.toNat*w.toNat:=Nat.mul_le_mul_right _ hr;rw[Nat.succ_mul] at this;rw[Nat.mul_comm w.toNat];omega
    obtain⟨cs,ec⟩:=HW (W:=w.toNat) (f:=λj=>n.testBit j) ei hk hb.symm;unfold nC;walk_at "rd"
    refine⟨by decide,hQ _ ?_⟩
    rw[show bI w h n=_ from ec];have e1:(i*w.toNat+k)%w.toNat=k:=by rw[Nat.add_comm,Nat.add_mul_mod_self_right];exact Nat.mod_eq_of_lt hc
    have e2:(i*w.toNat+k)/w.toNat=i:=by rw[Nat.add_comm,Nat.add_mul_div_right _ _ (by omega),Nat.div_eq_of_lt hc,Nat.zero_add]
    show some (Res.ok (PV.tup [.int k,.int i]))=some (.ok (.tup [.int (((i*w.toNat+k)%w.toNat:Nat):Int),.int (((i*w.toNat+k)/w.toNat:Nat):Int)]))
    rw[e1,e2]
   ·rcases Nat.lt_or_ge j (i*w.toNat+k) with z|z
    ·exact hk j z
    ·have:j=i*w.toNat+k:=by omega
     rw[this,<-iw,<-hb];exact ZaC q
  ·rintro ρ ⟨v3,rfl,hk⟩;rw[dX] at hk;refine⟨_,_,rfl,λj hj=>hk j ?_⟩;rw[Nat.succ_mul] at hj;exact hj
 ·rintro ρ ⟨v2,v3,rfl,hi⟩;rw[dX] at hi;walk_at "rd"
  unfold nH;walk_at "rd"
  refine hQ _ ?_;rw[show bI w h n=[] from zK λj hj=>hi j (by rw[Nat.mul_comm];exact hj)]
  rfl
theorem Qd{w h:Int}{away keep:Nat}(al:away<2^(w.toNat*h.toNat))(e:bI w h (away &&& keep)=[]):away &&& keep=0:=by
 apply Nat.eq_of_testBit_eq
 intro i;rw[Nat.zero_testBit];rcases Nat.lt_or_ge i (w.toNat*h.toNat) with q|q
 ·cases hb:(away &&& keep).testBit i with
  |false=>rfl
  |true=>
   have:Mth.cellOf w.toNat i∈bI w h (away &&& keep):=Zas.mpr ⟨i,ZaG.mpr ⟨ZaA.mpr q,hb⟩,rfl⟩;rw[e] at this;cases this
 ·exact Nat.testBit_lt_two_pow (Nat.lt_of_le_of_lt Nat.and_le_left (Zap al (Nat.pow_le_pow_right (by decide) q)))
theorem JQ{w h:Int}(sz:Sz w h){away keep:Nat}(al:away<2^(w.toNat*h.toNat)):cu [.tup [.int w,.int h],.int away,.int keep]=some (.ok (match bI w h (away &&& keep) with
  |[]=>.non
  |c::_=>.exc "Kept" [("column",.int c.1),("row",.int c.2)])):=by
 refine jo (x:=fZ (startR [.tup [.int w,.int h],.int away,.int keep] 2)) (um λQS hQ=>?_);unfold fZ;rw[show startR [.tup [.int w,.int h],PV.int away,.int keep] 2=[some (.sh (.tup [.int w,.int h])),some (.sh (.int away)),some (.sh (.int keep)),none,none] from rfl];walk_at "rd"
 cases e:bI w h (away &&& keep) with
 |nil=>
  have z0:=Qd al e;have dis:∀ c∈bI w h away,keep.testBit (Mth.pl w.toNat c)=false:=λc hc=>by
   have h1:=(qd hc).2;have h2:=Zbd (λn=>n.testBit (Mth.pl w.toNat c)) z0;simp only[Nat.testBit_and,h1,Bool.true_and,Nat.zero_testBit] at h2;exact h2
  obtain⟨S,T,ef⟩:=Fx sz dis z0;refine VR ?_;walk_at "rd"
  rw[ef];walk_at "rd"
  unfold gM;walk_at "rd"
  exact hQ _ (by rw[e];rfl)
 |cons c cs=>
  refine V0 (z:=.exc "Kept" [("column",.int c.1),("row",.int c.2)]) (R9 (Sd ?_)) ?_
  ·walk_at "rd"
   exact Fy sz e
  ·rw[V1 rfl];unfold kI;walk_at "rd"
   unfold gM;walk_at "rd"
   exact hQ _ (by rw[e];rfl)
theorem Qe{w h:Int}(sz:Sz w h){away keep:Nat}(al:away<2^(w.toNat*h.toNat)):jL [.tup [.int w,.int h],.int away,.int keep]=some (.ok (.bl true)):=by
 have ef:=Ln sz (away &&& keep);have er:=JQ sz (keep:=keep) al;refine jo (x:=jK (startR [.tup [.int w,.int h],.int away,.int keep] 3)) (um λQS hQ=>?_);unfold jK;rw[show startR [.tup [.int w,.int h],PV.int away,.int keep] 3=[some (.sh (.tup [.int w,.int h])),some (.sh (.int away)),some (.sh (.int keep)),none,none,none] from rfl];walk_at "rd"
 rw[jN,ef];walk_at "rd"
 rw[er];cases e:bI w h (away &&& keep) with
 |nil=>
  rw[show Wc []=.non from rfl];simp only;walk_at "rd"
  unfold ph;walk_at "rd"
  exact hQ _ rfl
 |cons c cs=>
  rw[show Wc (c::cs)=.tup [.int c.1,.int c.2] from rfl];simp only;walk_at "rd"
  unfold pG;walk_at "rd"
  refine⟨true,rfl,?_⟩;walk_at "rd"
  refine⟨true,rfl,?_⟩;walk_at "rd"
  refine⟨false,rfl,?_⟩;walk_at "rd"
  unfold pF;walk_at "rd"
  refine⟨false,rfl,?_⟩;walk_at "rd"
  refine⟨false,rfl,?_⟩;walk_at "rd"
  refine⟨false,rfl,?_⟩;walk_at "rd"
  unfold pD;walk_at "rd"
  refine⟨_,rfl,_,rfl,by decide,?_⟩
  refine dF (λ_ ρ=>∃ v5,ρ=[some (.sh (.tup [.int w,.int h])),some (.sh (.int away)),some (.sh (.int keep)),some (.sh (.tup [.int c.1,.int c.2])),some (.sh (.exc "Kept" [("column",.int c.1),("row",.int c.2)])),v5]) ⟨none,rfl⟩ ?_ ?_
  ·rintro i x ρ hx ⟨v5,rfl⟩;obtain⟨n,rfl⟩:∃ n:Int,x=.int n:=by
    have:=Zal hx;simp at this;rcases this with q|q
    ·exact⟨_,q⟩
    ·exact⟨_,q⟩
   unfold pq;walk_at "rd"
   exact⟨_,rfl⟩
  ·rintro ρ ⟨v5,rfl⟩;walk_at "rd"
   unfold pC;walk_at "rd"
   refine⟨_,rfl,_,rfl,by decide,true,Pb λx hx=>?_,hQ _ rfl⟩
   simp at hx;rcases hx with rfl|rfl
   ·exact Fb _ _
   ·exact Fb _ _
theorem law_main(ns:List Int)(hn:ns.length<=63):zA [.lst (ns.map .int)]=some (.ok (.bl true)):=by
 obtain⟨c1,ec1⟩:=zJ ns 1 (by decide)
 obtain⟨w,h,es,sz⟩:=HS c1;have w0:=sz.w0;have w1:=sz.w1;have h0:=sz.h0;have h1:=sz.h1;refine jo (x:=JF (startR [.lst (ns.map .int)] 6)) (um λQS hQ=>?_);unfold JF;rw[show startR [.lst (ns.map PV.int)] 6=[some (.sh (.lst (ns.map .int))),none,none,none,none,none,none] from rfl];walk_at "rd"
 rw[show d8 [.lst (ns.map .int),.int 1]=some (.ok (.int c1)) from ec1];walk_at "rd"
 rw[es];walk_at "rd"
 rw[List.length_map];generalize hM:(if(if 8<(ns.length:Int) then 8 else(ns.length:Int))>3 then if 8<(ns.length:Int) then 8 else(ns.length:Int) else 3)=M
 have hM8:3<=M/\M<=8:=by rw[<-hM];split<;>(try split)<;>lia
 refine⟨by decide,by decide,by lia,by lia,?_⟩
 refine dF (λ_ ρ=>∃ v2 v3 v4 v5 v6:Option Sl,ρ=[some (.sh (.lst (ns.map .int))),some (.sh (.tup [.int w,.int h])),v2,v3,v4,v5,v6]) ⟨_,_,_,_,_,rfl⟩ ?_ ?_
 ·rintro i x ρ hx ⟨v2,v3,v4,v5,v6,rfl⟩;obtain⟨hi,rfl⟩:=rW hx;have hi6:i<6:=by lia
  obtain⟨x1,f1⟩:=zJ ns (2+i) (by lia)
  obtain⟨away,f2,al⟩:=Fw sz x1 1 (by decide)
  obtain⟨keep,f3,kl⟩:=Fw sz x1 2 (by decide)
  rw[show(2:Int)+(i:Int)=((2+i:Nat):Int) by push_cast;rfl]
  unfold JC;walk_at "rd"
  rw[f1];walk_at "rd"
  rw[show(PV.int 1)=.int ((1:Nat):Int) from rfl,f2];walk_at "rd"
  rw[show(PV.int 2)=.int ((2:Nat):Int) from rfl,f3];walk_at "rd"
  rw[Qe sz al];walk_at "rd"
  unfold JB;walk_at "rd"
  rw[jN];have l1:away &&& keep<=away:=Nat.and_le_left;have l2:away &&& keep<=keep:=Nat.and_le_right;have a1:(away-(away &&& keep)) &&& keep=0:=by
   apply Nat.eq_of_testBit_eq
   intro i;rw[Nat.testBit_and,xM,Nat.zero_testBit];cases away.testBit i<;>cases keep.testBit i<;>rfl
  have a2:away &&& (keep-(away &&& keep))=0:=by
   apply Nat.eq_of_testBit_eq
   intro i;rw[Nat.testBit_and,Nat.and_comm away keep,xM,Nat.zero_testBit];cases away.testBit i<;>cases keep.testBit i<;>rfl
  have no:∀ {a b:Nat},a<2^(w.toNat*h.toNat)->a &&& b=0->cu [.tup [.int w,.int h],.int a,.int b]=some (.ok .non):=λ{a b} al e=>by
   have:=JQ sz (keep:=b) al;rw[e,show bI w h 0=[] from zK λj _=>Nat.zero_testBit j] at this;exact this
  rw[show(away:Int)-((away &&& keep:Nat):Int)=((away-(away &&& keep):Nat):Int) by lia,no (Nat.lt_of_le_of_lt (Nat.sub_le _ _) al) a1,show(keep:Int)-((away &&& keep:Nat):Int)=((keep-(away &&& keep):Nat):Int) by lia,no al a2]
  walk_at "rd"
  unfold Jz;walk_at "rd"
  refine⟨.inl ⟨by lia,by lia⟩,CV (λ_=>?_) λ_=>⟨_,_,_,_,_,rfl⟩⟩
  unfold Jy;walk_at "rd"
  exact hQ _ rfl
 ·rintro ρ ⟨v2,v3,v4,v5,v6,rfl⟩;walk_at "rd"
  unfold JD;walk_at "rd"
  exact hQ _ rfl
def top(i:Nat):Stmt:=PySem.Challenge.pw_lostblock_k29_kept_cells.main.body.getD i (.Pass ⟨0,0,0,0⟩)
structure Txt(mg:Str->Option Value):Prop where
 tt:True
 Ck:mg "ValueError"=none
 Wf:mg "bool"=none
 Wg:mg "dict"=none
 Gb:mg "enumerate"=none
 XF:mg "int"=none
 cZ:mg "isinstance"=none
 zN:mg "len"=none
 Wh:mg "list"=none
 XH:mg "max"=none
 XJ:mg "min"=none
 jO:mg "range"=none
 xO:mg "sorted"=none
 XM:mg "zip"=none
 Qg:∃ t,mg "COLUMN"=some (.str "column" t)
 JR:∃ t,mg "ROW"=some (.str "row" t)
structure Ads where
 (x_Kept x_BlockError x_NoStroke x_NoStack x_NoDeed x_Wrong:Addr)
structure Xt(K:PySem.W.Frag)(mg:Str->Option Value)(d:Ads):Prop where
 u_Kept:R6 K mg "Kept" ["column","row"] d.x_Kept
 n_Kept:nsIn K mainGlobals "Kept"=some (some (.ref d.x_Kept))
 g_Kept:mg "Kept"=some (.ref d.x_Kept)
 n_BlockError:nsIn K mainGlobals "BlockError"=some (some (.ref d.x_BlockError))
 g_BlockError:mg "BlockError"=some (.ref d.x_BlockError)
 n_NoStroke:nsIn K mainGlobals "NoStroke"=some (some (.ref d.x_NoStroke))
 g_NoStroke:mg "NoStroke"=some (.ref d.x_NoStroke)
 n_NoStack:nsIn K mainGlobals "NoStack"=some (some (.ref d.x_NoStack))
 g_NoStack:mg "NoStack"=some (.ref d.x_NoStack)
 n_NoDeed:nsIn K mainGlobals "NoDeed"=some (some (.ref d.x_NoDeed))
 g_NoDeed:mg "NoDeed"=some (.ref d.x_NoDeed)
 n_Wrong:nsIn K mainGlobals "Wrong"=some (some (.ref d.x_Wrong))
 g_Wrong:mg "Wrong"=some (.ref d.x_Wrong)
 ca_BlockError:Catch K d.x_BlockError
 s_Kept_BlockError:PySem.W.subIn K (.ref d.x_Kept) (.ref d.x_BlockError)=some true
 no_Kept:PySem.W.kitOne K (.type "NoneType") (.ref d.x_Kept)=some false
 k_Kept_Kept:PySem.W.kitOne K (.ref d.x_Kept) (.ref d.x_Kept)=some true
 no_NoDeed:PySem.W.kitOne K (.type "NoneType") (.ref d.x_NoDeed)=some false
 k_Kept_NoDeed:PySem.W.kitOne K (.ref d.x_Kept) (.ref d.x_NoDeed)=some false
 no_NoStack:PySem.W.kitOne K (.type "NoneType") (.ref d.x_NoStack)=some false
 k_Kept_NoStack:PySem.W.kitOne K (.ref d.x_Kept) (.ref d.x_NoStack)=some false
 no_NoStroke:PySem.W.kitOne K (.type "NoneType") (.ref d.x_NoStroke)=some false
 k_Kept_NoStroke:PySem.W.kitOne K (.ref d.x_Kept) (.ref d.x_NoStroke)=some false
 no_Wrong:PySem.W.kitOne K (.type "NoneType") (.ref d.x_Wrong)=some false
 k_Kept_Wrong:PySem.W.kitOne K (.ref d.x_Kept) (.ref d.x_Wrong)=some false
 nob_ValueError:PySem.W.kitOne K (.type "NoneType") (.type "ValueError")=some false
 kb_Kept_ValueError:PySem.W.kitOne K (.ref d.x_Kept) (.type "ValueError")=some true
section
seal PE PA PS PSs PG PGs PI PPs MJ MT MA MAL MO MS MG MGs MI
variable{P:Program}{w:World}{K:PySem.W.Frag}{mg:Str->Option Value}{base:Heap}
theorem tR{d:Ads}(Z:Xt K mg d):∀ c b,jT c=some b->T9 K c "BlockError" b:=by
 intro c b h;unfold jT at h;by_cases h_Kept:c="Kept"
 ·subst h_Kept;rw[Zag rfl] at h;cases h;exact⟨_,_,Z.n_Kept,Z.n_BlockError,Z.s_Kept_BlockError⟩
 rw[Zae h_Kept] at h;cases h
theorem HX{d:Ads}(Z:Xt K mg d):∀ c b,Bq c=some b->HF K c (.ref d.x_Kept) b:=by
 intro c b h;unfold Bq at h;by_cases h_Kept:c="Kept"
 ·subst h_Kept;rw[Zag rfl] at h;cases h;exact⟨_,Z.n_Kept,Z.u_Kept.xi,Z.k_Kept_Kept⟩
 rw[Zae h_Kept] at h;cases h
theorem BV{d:Ads}(Z:Xt K mg d):∀ c b,tL c=some b->HF K c (.ref d.x_NoDeed) b:=by
 intro c b h;unfold tL at h;by_cases h_Kept:c="Kept"
 ·subst h_Kept;rw[Zag rfl] at h;cases h;exact⟨_,Z.n_Kept,Z.u_Kept.xi,Z.k_Kept_NoDeed⟩
 rw[Zae h_Kept] at h;cases h
theorem ym{d:Ads}(Z:Xt K mg d):∀ c b,pZ c=some b->HF K c (.ref d.x_NoStack) b:=by
 intro c b h;unfold pZ at h;by_cases h_Kept:c="Kept"
 ·subst h_Kept;rw[Zag rfl] at h;cases h;exact⟨_,Z.n_Kept,Z.u_Kept.xi,Z.k_Kept_NoStack⟩
 rw[Zae h_Kept] at h;cases h
theorem xN{d:Ads}(Z:Xt K mg d):∀ c b,m7 c=some b->HF K c (.ref d.x_NoStroke) b:=by
 intro c b h;unfold m7 at h;by_cases h_Kept:c="Kept"
 ·subst h_Kept;rw[Zag rfl] at h;cases h;exact⟨_,Z.n_Kept,Z.u_Kept.xi,Z.k_Kept_NoStroke⟩
 rw[Zae h_Kept] at h;cases h
theorem Fz{d:Ads}(Z:Xt K mg d):∀ c b,wR c=some b->HF K c (.ref d.x_Wrong) b:=by
 intro c b h;unfold wR at h;by_cases h_Kept:c="Kept"
 ·subst h_Kept;rw[Zag rfl] at h;cases h;exact⟨_,Z.n_Kept,Z.u_Kept.xi,Z.k_Kept_Wrong⟩
 rw[Zae h_Kept] at h;cases h
theorem tU{d:Ads}(Z:Xt K mg d):∀ c b,jU c=some b->HF K c (.type "ValueError") b:=by
 intro c b h;unfold jU at h;by_cases h_Kept:c="Kept"
 ·subst h_Kept;rw[Zag rfl] at h;cases h;exact⟨_,Z.n_Kept,Z.u_Kept.xi,Z.kb_Kept_ValueError⟩
 rw[Zae h_Kept] at h;cases h
theorem rZ{d:Ads}(Z:Xt K mg d):∀ c,oF c=true->∃ Ca,nsIn K mainGlobals c=some (some (.ref Ca))/\XI K Ca/\PySem.W.findIn K (.ref Ca) "column"=some none:=by
 intro c h;unfold oF at h;by_cases h_Kept:c="Kept"
 ·subst h_Kept;exact⟨_,Z.n_Kept,Z.u_Kept.xi,Z.u_Kept.fl _ (by simp)⟩
 simp_all
theorem zL{d:Ads}(Z:Xt K mg d):∀ c,Br c=true->∃ Ca,nsIn K mainGlobals c=some (some (.ref Ca))/\XI K Ca/\PySem.W.findIn K (.ref Ca) "row"=some none:=by
 intro c h;unfold Br at h;by_cases h_Kept:c="Kept"
 ·subst h_Kept;exact⟨_,Z.n_Kept,Z.u_Kept.xi,Z.u_Kept.fl _ (by simp)⟩
 simp_all
theorem Lp:bx ["self","column","row"] ["self","column","row"] (aL (inClass (top 3) 0)):=⟨rfl,rfl,rfl,by decide +kernel,rfl,by decide +kernel,by decide +kernel⟩
theorem Lq{C f:Addr}{cd:ClassData}{fd:FuncData}(F:Fun K "__init__" "Kept.__init__" (inClass (top 3) 0) f fd)(Y:XCls K C cd)(n0:PySem.W.findIn K (.ref C) "column"=some none)(n1:PySem.W.findIn K (.ref C) "row"=some none):pJ P w K mg base CX0 1 f fd ["self","column","row"] (spI C ["column","row"]):=by
 refine F.ok Lp (λvs H Q E h=>RZ h) (λcdv A outer s H vs Q E hr h=>?_);exact⟨_,(aB (Xh (pv 0) (pv 1) rfl) (aO (Xi (pv 0) (pv 2) rfl))),K7 Y n0 n1 (by decide) h⟩
theorem FJ:bx ["size","cell"] ["size","cell"] (aL (top 8)):=⟨rfl,rfl,rfl,by decide +kernel,rfl,by decide +kernel,by decide +kernel⟩
theorem FN(T:Txt mg)(D:bu K mg "place_of" (top 8) ["size","cell"]){d:Ads}(Z:Xt K mg d):FnAt P w K mg base "place_of" 1 ["size","cell"] (spM K XR0 gG):=by
 refine D.ok FJ (λvs H Q E h=>dC h λps r e=>match ps,e with|[_,_],_=>rfl) (λf cdv A outer s H vs Q E hr h=>?_)
 refine⟨_,(aO (bj (aU cj (aU cX (bO bH (pv 1) aC (λ_ _=>rfl)) (bO bH (pv 0) aC (λ_ _=>rfl))) (bO bH (pv 1) aC (λ_ _=>rfl))))),dM (b:=p6) (k:=2) (n:=0) rfl (λps r e=>match ps,e with|[_,_],e=>⟨rfl,e⟩) h λio H0 F0 hio=>?_⟩
 exact(bW (aJ aF.up eQ (aJ aF.up g8 (aJ aF.up dB (ak 1) aG) (aJ aF.up dB (ak 0) aG)) (aJ aF.up dB (ak 1) aG)))
theorem FP:bx ["size","some","cell"] ["size","some","cell"] (aL (top 9)):=⟨rfl,rfl,rfl,by decide +kernel,rfl,by decide +kernel,by decide +kernel⟩
theorem FQ(T:Txt mg)(D:bu K mg "has_cell" (top 9) ["size","some","cell"]){d:Ads}(Z:Xt K mg d)(qp:FnAt P w K mg base "place_of" 1 ["size","cell"] (spM K XR0 gG)):FnAt P w K mg base "has_cell" 2 ["size","some","cell"] (spM K XR0 gH):=by
 refine D.ok FP (λvs H Q E h=>dC h λps r e=>match ps,e with|[_,_,_],_=>rfl) (λf cdv A outer s H vs Q E hr h=>?_)
 refine⟨_,(aO (bj (zY (kY hr) (aU sI (aU Gu (pv 1) (aW qp (hr.mono (by decide)) rfl (aj (pv 0) (aj (pv 2) aM)))) aC) aC (dg _)))),dM (b:=p7) (k:=3) (n:=0) rfl (λps r e=>match ps,e with|[_,_,_],e=>⟨rfl,e⟩) h λio H0 F0 hio=>?_⟩
 exact(bW (aJ aH.up Am (dW (aJ aF.up yP (aJ aF.up Nh (ak 1) (cA (ao (ak 0) (ao (ak 2) aR)))) aG)) (dW aG)))
theorem BW:bx ["size"] ["size"] (aL (top 10)):=⟨rfl,rfl,rfl,by decide +kernel,rfl,by decide +kernel,by decide +kernel⟩
theorem BX(T:Txt mg)(D:bu K mg "all_cells" (top 10) ["size"]){d:Ads}(Z:Xt K mg d):FnAt P w K mg base "all_cells" 1 ["size"] (spO K XR0 jF):=by
 refine D.ok BW (λvs H Q E h=>nY h λps r e=>match ps,e with|[_],_=>rfl) (λf cdv A outer s H vs Q E hr h=>?_)
 refine⟨_,(aO (bj (gP ["place","size"] [none,some 0] rfl (jW rfl T.jO (aj (aU cX (bO bH (pv 0) aC (λ_ _=>rfl)) (bO bH (pv 0) aC (λ_ _=>rfl))) aM)) (λ_ _ _ _ _=>(cU (i:=0) (by decide +kernel) rfl rfl)) (λ_ _ _ _ _=>vp) (λ_ _ _ _ _=>(fC (aj (aU fB (pvl 0) (bO lr (pvf 1) aC (λ_ _=>rfl))) (aj (aU uC (pvl 0) (bO lr (pvf 1) aC (λ_ _=>rfl))) aM))))))),nW (b:=m8) (k:=1) (n:=0) rfl (λps r e=>match ps,e with|[_],e=>⟨rfl,e⟩) h λio H0 F0 hio=>?_⟩
 exact(qL (nU (qO (ao (aJ aF.up g8 (aJ aF.up dB (ak 0) aG) (aJ aF.up dB (ak 0) aG)) aR)) (aN 0) (dI 0) vL (gC (ao (aJ aF.up jk (ak 0) (aJ aF.up dB (ak 1) aG)) (ao (aJ aF.up Ir (ak 0) (aJ aF.up dB (ak 1) aG)) aR)))))
theorem oG:bx ["size","cells","some","cell"] ["size","cells"] (aL (top 11)):=⟨rfl,rfl,rfl,by decide +kernel,rfl,by decide +kernel,by decide +kernel⟩
theorem Lr(T:Txt mg)(D:bu K mg "set_of" (top 11) ["size","cells"]){d:Ads}(Z:Xt K mg d)(qp:FnAt P w K mg base "place_of" 1 ["size","cell"] (spM K XR0 gG)):FnAt P w K mg base "set_of" 2 ["size","cells"] (spM K XR0 rM):=by
 refine D.ok oG (λvs H Q E h=>dC h λps r e=>match ps,e with|[_,_],_=>rfl) (λf cdv A outer s H vs Q E hr h=>?_)
 refine⟨_,(aB (aX (i:=2) oG.nd rfl (Or.inl rfl) aC)
   (aB (iC ZaY rfl (kZ (pv 1)) (eE (i:=3) oG.nd rfl (Or.inl rfl))
    (aO (aX (i:=2) oG.nd rfl (Or.inl rfl) (aU Wn (pv 2) (aU Gr aC (aW qp (hr.mono (by decide)) rfl (aj (pv 0) (aj (pv 3) aM))))))))
   (aO (bj (pv 2))))),dM (b:=wW) (k:=2) (n:=2) rfl (λps r e=>match ps,e with|[_,_],e=>⟨rfl,e⟩) h λio H0 F0 hio=>?_⟩
 exact(aQ (bD aG (aN 2))
   (aQ (ji (lq (ak 1)) (aN 3)
    (bD (aJ aF.up Yb (ak 2) (aJ aF.up Ng aG (cA (ao (ak 0) (ao (ak 3) aR))))) (aN 2)))
   (bW (ak 2))))
theorem FT:bx ["size","some"] ["size","some"] (aL (top 12)):=⟨rfl,rfl,rfl,by decide +kernel,rfl,by decide +kernel,by decide +kernel⟩
theorem FW(T:Txt mg)(D:bu K mg "cells_of" (top 12) ["size","some"]){d:Ads}(Z:Xt K mg d)(Gd:FnAt P w K mg base "all_cells" 1 ["size"] (spO K XR0 jF))(qt:FnAt P w K mg base "has_cell" 2 ["size","some","cell"] (spM K XR0 gH)):FnAt P w K mg base "cells_of" 3 ["size","some"] (spO K XR0 fJ):=by
 refine D.ok FT (λvs H Q E h=>nY h λps r e=>match ps,e with|[_,_],_=>rfl) (λf cdv A outer s H vs Q E hr h=>?_)
 refine⟨_,(aO (bj (gP ["cell","size","some"] [none,some 0,some 1] rfl (kZ (aW Gd (hr.mono (by decide)) rfl (aj (pv 0) aM))) (λ_ _ _ _ _=>(cU (i:=0) (by decide +kernel) rfl rfl)) (λ_ _ _ _ _=>(vq (jb (aW qt (hr.mono (by decide)) (glc rfl) (aj (pvf 1) (aj (pvf 2) (aj (pvl 0) aM))))))) (λ_ _ _ _ _=>(pvl 0))))),nW (b:=p8) (k:=2) (n:=0) rfl (λps r e=>match ps,e with|[_,_],e=>⟨rfl,e⟩) h λio H0 F0 hio=>?_⟩
 exact(qL (nU (lq (cP (kW (ao (ak 0) aR)))) (aN 0) (dI 0) (jg (cA (ao (ak 1) (ao (ak 2) (ao (ak 0) aR))))) (ak 0)))
theorem gO:bx ["wishes","asker_of","starts","askers","came_by","place","asker","giver"] ["wishes","asker_of","starts"] (aL (top 14)):=⟨rfl,rfl,rfl,by decide +kernel,rfl,by decide +kernel,by decide +kernel⟩
theorem Ls(T:Txt mg)(D:bu K mg "walked" (top 14) ["wishes","asker_of","starts"]){d:Ads}(Z:Xt K mg d):FnAt P w K mg base "walked" 1 ["wishes","asker_of","starts"] (spD K XR0 jq):=by
 refine D.ok gO (λvs H Q E h=>Iz h λps r e=>match ps,e with|[_,_,_],_=>rfl) (λf cdv A outer s H vs Q E hr h=>?_)
 refine⟨_,(aB (aX (i:=3) gO.nd rfl (Or.inl rfl) (yD z9 rfl T.Wh (by decide +kernel) (aj (pv 2) aM)))
   (aB (aX (i:=4) gO.nd rfl (Or.inl rfl) mL)
   (aB (aX (i:=5) gO.nd rfl (Or.inl rfl) aC)
   (aB (CG ZaY (bY GX (pv 5) (bQ jX rfl T.zN (by decide +kernel) (aj (pv 3) aM)) (dg _))
    (aB (aX (i:=6) gO.nd rfl (Or.inl rfl) (bO bH (pv 3) (pv 5) (λ_ _=>rfl)))
    (aB (iC ZaY rfl (kZ (mY hr (pv 0) (pv 6) (λ_ _=>rfl))) (eE (i:=7) gO.nd rfl (Or.inl rfl))
     (aB (gr (bY (Vh hr) (pv 7) (pv 4) (by with_unfolding_all rfl))
      (aO Cz)
      cM)
     (aB (uE (qx hr) (pv 4) (pv 7) (pv 6) rfl)
     (aB (gr (bY (yU hr) (pv 7) (pv 1) (by with_unfolding_all rfl))
      (aO (bj (fC (aj (pv 7) (aj (pv 3) (aj (pv 4) aM))))))
      cM)
     (aO (zU (Th PySem.F.plainAttrs_list PySem.F.slot_list_append PySem.F.type_list_append sS (pv 3) (aj (mY hr (pv 1) (pv 7) (λ_ _=>rfl)) aM))))))))
    (aO (aX (i:=5) gO.nd rfl (Or.inl rfl) (aU cj (pv 5) aC))))))
   (aO (bj (fC (aj mG (aj (pv 3) (aj (pv 4) aM)))))))))),Iw (b:=xm) (k:=3) (n:=5) rfl (λps r e=>match ps,e with|[_,_,_],e=>⟨rfl,e⟩) h λio H0 F0 hio=>?_⟩
 exact(aQ (qK (i:=3) trivial (vM Ve (qJ 2)))
   (aQ (qK (i:=4) trivial qT)
   (aQ (bD aG (aN 5))
   (aQ (M4 2000 (bR (aJ aF.up Vb (ak 5) (sX yR (bL 3))))
    (aQ (bD (aJ aV.up WT (qJ 3) (ak 5)) (aN 6))
    (aQ (ji (lq (qW (eG 0) (ak 6))) (aN 7)
     (aQ (gw (bR (aJ aF.up W5 (ak 7) (eG 4)))
      QX
      cO)
     (aQ (Iv (ak 6) (ak 7))
     (aQ (gw (bR (aJ aF.up Dt (ak 7) (eG 1)))
      (IW (Dz (Du (ak 7)) (uM 3 hio (by decide) (uM 4 hio (by decide) IV))))
      cO)
     (U7 (qW (eG 1) (ak 7)))))))
    (bD (aJ aF.up eQ (ak 5) aG) (aN 5)))))
   (IW (Dz (Du mQ) (uM 3 hio (by decide) (uM 4 hio (by decide) IV))))))))
theorem gh:bx ["giver_of","asker_of","came_by","free","giver","asker","left"] ["giver_of","asker_of","came_by","free"] (aL (top 15)):=⟨rfl,rfl,rfl,by decide +kernel,rfl,by decide +kernel,by decide +kernel⟩
theorem BZ(T:Txt mg)(D:bu K mg "pair_anew" (top 15) ["giver_of","asker_of","came_by","free"]){d:Ads}(Z:Xt K mg d):FnAt P w K mg base "pair_anew" 1 ["giver_of","asker_of","came_by","free"] (Dv K d7):=by
 refine D.ok gh (λvs H Q E h=>KD h λps r e=>match ps,e with|[_,_,_,_],_=>rfl) (λf cdv A outer s H vs Q E hr h=>?_)
 refine⟨_,(aB (aX (i:=4) gh.nd rfl (Or.inl rfl) (pv 3))
   (aO (CG ZaY (bY zW (pv 4) mG (dg _))
    (aB (aX (i:=5) gh.nd rfl (Or.inl rfl) (mY hr (pv 2) (pv 4) (λ_ _=>rfl)))
    (aB (aX (i:=6) gh.nd rfl (Or.inl rfl) (Ky hr (pv 0) (pv 5) ⟨rfl,rfl,rfl,rfl⟩))
    (aB (uE (qx hr) (pv 0) (pv 5) (pv 4) rfl)
    (aB (uE (qx hr) (pv 1) (pv 4) (pv 5) rfl)
    (aO (aX (i:=4) gh.nd rfl (Or.inl rfl) (pv 6)))))))))),KC (b:=iy) (k:=4) (n:=3) rfl (λps r e=>match ps,e with|[_,_,_,_],e=>⟨rfl,e⟩) h λa c H0 F0=>?_⟩
 exact(qY (uH (ak 3) (qX 4 (by decide)))
   (KJ 2000 (bR (aJ aH.up GZ (bL 4) mQ))
    (qY (uH (qW (eG 2) (ak 4)) (qX 5 (by decide)))
    (qY (uH (Nu (eG 0) (ak 5)) (qX 6 (by decide)))
    (qY (Dy (ak 4) (ak 5))
    (qY (Dy (ak 5) (ak 4))
    (uH (ak 6) (qX 4 (by decide)))))))))
theorem fj:bx ["wishes","giver_of","asker_of","asker","way"] ["wishes"] (aL (top 16)):=⟨rfl,rfl,rfl,by decide +kernel,rfl,by decide +kernel,by decide +kernel⟩
theorem yo(T:Txt mg)(D:bu K mg "most_pairs" (top 16) ["wishes"]){d:Ads}(Z:Xt K mg d)(xP:FnAt P w K mg base "walked" 1 ["wishes","asker_of","starts"] (spD K XR0 jq))(Ge:FnAt P w K mg base "pair_anew" 1 ["giver_of","asker_of","came_by","free"] (Dv K d7)):FnAt P w K mg base "most_pairs" 2 ["wishes"] (spO K XR0 fV):=by
 refine D.ok fj (λvs H Q E h=>nY h λps r e=>match ps,e with|[_],_=>rfl) (λf cdv A outer s H vs Q E hr h=>?_)
 refine⟨_,(aB (aX (i:=1) fj.nd rfl (Or.inl rfl) mL)
   (aB (aX (i:=2) fj.nd rfl (Or.inl rfl) mL)
   (aB (Ri 0 (iC ZaY rfl (wG (pv 0)) (eE (i:=3) fj.nd rfl (Or.inl rfl))
    (aB (aX (i:=4) fj.nd rfl (Or.inl rfl) (aW xP (hr.mono (by decide)) rfl (aj (pv 0) (aj (pv 2) (aj (vm (aj (pv 3) aM)) aM)))))
    (aO (zU (aW Ge (hr.mono (by decide)) rfl (aj (pv 1) (aj (pv 2) (aj (bO bH (pv 4) aC (λ_ _=>rfl)) (aj (bO bH (pv 4) aC (λ_ _=>rfl)) aM))))))))))
   (aO (bj (pv 1)))))),nW (b:=lH) (k:=1) (n:=4) rfl (λps r e=>match ps,e with|[_],e=>⟨rfl,e⟩) h λio H0 F0 hio=>?_⟩
 exact(aQ (qK (i:=1) trivial qT)
   (aQ (qK (i:=2) trivial qT)
   (aQ (Rj 0 (λ_ _=>Rp (tH 0) (aN 3)
    (aQ (uI (i:=4) trivial (NT (vG (bL 0) (vG (bL 2) (vG (dW (cP (Ag (ao (ak 3) aR)))) QV)))))
    (Bb 4 (Vm (by decide) (ao (aJ aF.up dB (ak 4) aG) (ao (aJ aF.up dB (ak 4) aG) aR)))))))
   (Dg 1 hio))))
theorem fL:bx ["wishes","giver_of","asker_of","way"] ["wishes","giver_of"] (aL (top 17)):=⟨rfl,rfl,rfl,by decide +kernel,rfl,by decide +kernel,by decide +kernel⟩
theorem qe(T:Txt mg)(D:bu K mg "short_of_givers" (top 17) ["wishes","giver_of"]){d:Ads}(Z:Xt K mg d)(xP:FnAt P w K mg base "walked" 1 ["wishes","asker_of","starts"] (spD K XR0 jq)):FnAt P w K mg base "short_of_givers" 2 ["wishes","giver_of"] (spM K XR0 dN):=by
 refine D.ok fL (λvs H Q E h=>dC h λps r e=>match ps,e with|[_,_],_=>rfl) (λf cdv A outer s H vs Q E hr h=>?_)
 refine⟨_,(aB (aX (i:=2) fL.nd rfl (Or.inl rfl) (yD (Hi hr rfl) rfl T.Wg (by decide +kernel) (aj (uJ 1 (gP ["asker","giver"] [none,none] rfl (zm (pv 1)) (λ_ _ _ _ _=>(uD (n:=2) rfl (gW (cU (i:=0) (by decide +kernel) rfl rfl) (gW (cU (i:=1) (by decide +kernel) rfl rfl) uB)))) (λ_ _ _ _ _=>vp) (λ_ _ _ _ _=>(fC (aj (pvl 1) (aj (pvl 0) aM)))))) aM)))
   (aB (aX (i:=3) fL.nd rfl (Or.inl rfl) (aW xP (hr.mono (by decide)) rfl (aj (pv 0) (aj (pv 2) (aj (uJ 0 (gP ["asker","giver_of"] [none,some 1] rfl (wG (pv 0)) (λ_ _ _ _ _=>(cU (i:=0) (by decide +kernel) rfl rfl)) (λ_ _ _ _ _=>(vq (bY (Hj hr) (pvl 0) (pvf 1) (by with_unfolding_all rfl)))) (λ_ _ _ _ _=>(pvl 0)))) aM)))))
   (aO (bj (fC (aj (bQ oU rfl T.xO (by decide +kernel) (aj (bO bH (pv 3) aC (λ_ _=>rfl)) aM)) (aj (bQ (xX rfl) rfl T.xO (by decide +kernel) (aj (bO bH (pv 3) aC (λ_ _=>rfl)) aM)) aM))))))),dM (b:=fW) (k:=2) (n:=2) rfl (λps r e=>match ps,e with|[_,_],e=>⟨rfl,e⟩) h λio H0 F0 hio=>?_⟩
 exact(aQ (bD (cP (vM (Rf λ_ _ _=>Rg) (nP (uK 1 (λ_ _=>jB (wI 1) (Ah (gZ (aN 0) (gZ (aN 1) uF))) (Aq (ie (dI 0) (ie (dI 1) uG))) vL (gC (ao (ak 1) (ao (ak 0) aR)))))))) (aN 2))
   (aQ (uI (i:=3) trivial (Rh (ao (ak 0) (ao (ak 2) (ao (cP (uK 0 (λ_ _=>jB (tH 0) (aN 0) (dI 0) (bR (aJ aF.up Dt (ak 0) (eG 1))) (ak 0)))) aR)))))
   (Bb 3 (bW (gC (ao (cP (vM Jm (Ae (aJ aF.up dB (ak 3) aG)))) (ao (cP (vM Oq (Nt (aJ aF.up dB (ak 3) aG)))) aR)))))))
theorem FZ:bx ["size","kind"] ["size","kind"] (aL (top 21)):=⟨rfl,rfl,rfl,by decide +kernel,rfl,by decide +kernel,by decide +kernel⟩
theorem Ga(T:Txt mg)(D:bu K mg "lines_of" (top 21) ["size","kind"]){d:Ads}(Z:Xt K mg d):FnAt P w K mg base "lines_of" 1 ["size","kind"] (spM K XR0 lK):=by
 refine D.ok FZ (λvs H Q E h=>dC h λps r e=>match ps,e with|[_,_],_=>rfl) (λf cdv A outer s H vs Q E hr h=>?_)
 refine⟨_,(aO (bj (Cy (bY (kY hr) (pv 1) (Dc rfl T.JR) (dg _)) (bO bH (pv 0) aC (λ_ _=>rfl)) (bO bH (pv 0) aC (λ_ _=>rfl))))),dM (b:=lJ) (k:=2) (n:=0) rfl (λps r e=>match ps,e with|[_,_],e=>⟨rfl,e⟩) h λio H0 F0 hio=>?_⟩
 exact(bW (Tq (bR (aJ aH.up Am (bL 1) (dW vD))) (aJ aF.up dB (ak 0) aG) (aJ aF.up dB (ak 0) aG)))
theorem Cd:bx ["size","kind"] ["size","kind"] (aL (top 22)):=⟨rfl,rfl,rfl,by decide +kernel,rfl,by decide +kernel,by decide +kernel⟩
theorem Ce(T:Txt mg)(D:bu K mg "length_of" (top 22) ["size","kind"]){d:Ads}(Z:Xt K mg d):FnAt P w K mg base "length_of" 1 ["size","kind"] (spM K XR0 jH):=by
 refine D.ok Cd (λvs H Q E h=>dC h λps r e=>match ps,e with|[_,_],_=>rfl) (λf cdv A outer s H vs Q E hr h=>?_)
 refine⟨_,(aO (bj (Cy (bY (kY hr) (pv 1) (Dc rfl T.JR) (dg _)) (bO bH (pv 0) aC (λ_ _=>rfl)) (bO bH (pv 0) aC (λ_ _=>rfl))))),dM (b:=jG) (k:=2) (n:=0) rfl (λps r e=>match ps,e with|[_,_],e=>⟨rfl,e⟩) h λio H0 F0 hio=>?_⟩
 exact(bW (Tq (bR (aJ aH.up Am (bL 1) (dW vD))) (aJ aF.up dB (ak 0) aG) (aJ aF.up dB (ak 0) aG)))
theorem uz:bx ["stroke"] ["stroke"] (aL (top 23)):=⟨rfl,rfl,rfl,by decide +kernel,rfl,by decide +kernel,by decide +kernel⟩
theorem uA(T:Txt mg)(D:bu K mg "stroke_cells" (top 23) ["stroke"]){d:Ads}(Z:Xt K mg d):FnAt P w K mg base "stroke_cells" 1 ["stroke"] (spO K XR0 dq):=by
 refine D.ok uz (λvs H Q E h=>nY h λps r e=>match ps,e with|[_],_=>rfl) (λf cdv A outer s H vs Q E hr h=>?_)
 refine⟨_,(aB (gr (bY (kY hr) (bO bH (pv 0) aC (λ_ _=>rfl)) (Dc rfl T.JR) (dg _))
    (aO (bj (gP ["column","stroke"] [none,some 0] rfl (sG rfl T.jO (aj (bO bH (pv 0) aC (λ_ _=>rfl)) (aj (aU cj (bO bH (pv 0) aC (λ_ _=>rfl)) aC) aM))) (λ_ _ _ _ _=>(cU (i:=0) (by decide +kernel) rfl rfl)) (λ_ _ _ _ _=>vp) (λ_ _ _ _ _=>(fC (aj (pvl 0) (aj (bO lr (pvf 1) aC (λ_ _=>rfl)) aM)))))))
    cM)
   (aO (bj (gP ["row","stroke"] [none,some 0] rfl (sG rfl T.jO (aj (bO bH (pv 0) aC (λ_ _=>rfl)) (aj (aU cj (bO bH (pv 0) aC (λ_ _=>rfl)) aC) aM))) (λ_ _ _ _ _=>(cU (i:=0) (by decide +kernel) rfl rfl)) (λ_ _ _ _ _=>vp) (λ_ _ _ _ _=>(fC (aj (bO lr (pvf 1) aC (λ_ _=>rfl)) (aj (pvl 0) aM)))))))),nW (b:=fX) (k:=1) (n:=0) rfl (λps r e=>match ps,e with|[_],e=>⟨rfl,e⟩) h λio H0 F0 hio=>?_⟩
 exact(aQ (gw (bR (aJ aH.up Am (dW (aJ aF.up dB (ak 0) aG)) (dW vD)))
    (qL (nU (Ao (ao (aJ aF.up dB (ak 0) aG) (ao (aJ aF.up eQ (aJ aF.up dB (ak 0) aG) aG) aR))) (aN 0) (dI 0) vL (gC (ao (ak 0) (ao (aJ aF.up dB (ak 1) aG) aR)))))
    cO)
   (qL (nU (Ao (ao (aJ aF.up dB (ak 0) aG) (ao (aJ aF.up eQ (aJ aF.up dB (ak 0) aG) aG) aR))) (aN 0) (dI 0) vL (gC (ao (aJ aF.up dB (ak 1) aG) (ao (ak 0) aR))))))
theorem dD:bx ["size","keep","kind","line","last","cells","kept"] ["size","keep","kind","line"] (aL (top 24)):=⟨rfl,rfl,rfl,by decide +kernel,rfl,by decide +kernel,by decide +kernel⟩
theorem qg(T:Txt mg)(D:bu K mg "longest_strokes" (top 24) ["size","keep","kind","line"]){d:Ads}(Z:Xt K mg d)(Gf:FnAt P w K mg base "length_of" 1 ["size","kind"] (spM K XR0 jH))(jz:FnAt P w K mg base "stroke_cells" 1 ["stroke"] (spO K XR0 dq))(qt:FnAt P w K mg base "has_cell" 2 ["size","some","cell"] (spM K XR0 gH)):FnAt P w K mg base "longest_strokes" 3 ["size","keep","kind","line"] (spO K XR0 dR):=by
 refine D.ok dD (λvs H Q E h=>nY h λps r e=>match ps,e with|[_,_,_,_],_=>rfl) (λf cdv A outer s H vs Q E hr h=>?_)
 refine⟨_,(aB (aX (i:=4) dD.nd rfl (Or.inl rfl) (aU vg (aW Gf (hr.mono (by decide)) rfl (aj (pv 0) (aj (pv 2) aM))) aC))
   (aB (aX (i:=5) dD.nd rfl (Or.inl rfl) (aW jz (hr.mono (by decide)) rfl (aj (fC (aj (pv 2) (aj (pv 3) (aj aC (aj (pv 4) aM))))) aM)))
   (aB (aX (i:=6) dD.nd rfl (Or.inl rfl) (aU Al (aU Al (vm (aj (Wm Ux aC) aM)) (gP ["place","cell","size","keep"] [none,none,some 0,some 1] rfl (QM rfl T.Gb (aj (pv 5) aM)) (λ_ _ _ _ _=>(uD (n:=2) rfl (gW (cU (i:=0) (by decide +kernel) rfl rfl) (gW (cU (i:=1) (by decide +kernel) rfl rfl) uB)))) (λ_ _ _ _ _=>(vq (jb (aW qt (hr.mono (by decide)) (glc rfl) (aj (pvf 2) (aj (pvf 3) (aj (pvl 1) aM))))))) (λ_ _ _ _ _=>(pvl 0)))) (vm (aj (aU cj (pv 4) aC) aM))))
   (aO (bj (gP ["one","other","kind","line"] [none,none,some 2,some 3] rfl (Vi rfl T.XM (aj (pv 6) (aj (Mf QG (pv 6) (Qy aC) Qx) aM))) (λ_ _ _ _ _=>(uD (n:=2) rfl (gW (cU (i:=0) (by decide +kernel) rfl rfl) (gW (cU (i:=1) (by decide +kernel) rfl rfl) uB)))) (λ_ _ _ _ _=>(vq (bY GX (aU Do (pvl 0) aC) (pvl 1) (dg _)))) (λ_ _ _ _ _=>(fC (aj (pvf 2) (aj (pvf 3) (aj (aU Do (pvl 0) aC) (aj (aU vg (pvl 1) aC) aM)))))))))))),nW (b:=dO) (k:=4) (n:=3) rfl (λps r e=>match ps,e with|[_,_,_,_],e=>⟨rfl,e⟩) h λio H0 F0 hio=>?_⟩
 exact(aQ (bD (aJ aF.up Dl (cA (ao (ak 0) (ao (ak 2) aR))) aG) (aN 4))
   (aQ (bD (cP (kW (ao (gC (ao (ak 2) (ao (ak 3) (ao aG (ao (ak 4) aR))))) aR))) (aN 5))
   (aQ (bD (cP (MN aV.up Ni (nP (MN aV.up Ni (nP (Ag (ao (Vf aG) aR))) (nP (nU (Ra (ao (ak 5) aR)) (Ah (gZ (aN 0) (gZ (aN 1) uF))) (Aq (ie (dI 0) (ie (dI 1) uG))) (jg (cA (ao (ak 2) (ao (ak 3) (ao (ak 1) aR))))) (ak 0))))) (nP (Ag (ao (aJ aF.up eQ (ak 4) aG) aR))))) (aN 6))
   (qL (nU (Vj (ao (ak 6) (ao (cP (Vc (qJ 6) (Q6 aG) Q5)) aR))) (Ah (gZ (aN 0) (gZ (aN 1) uF))) (Aq (ie (dI 0) (ie (dI 1) uG))) (bR (aJ aF.up Vb (aJ aF.up eQ (ak 0) aG) (ak 1))) (gC (ao (ak 2) (ao (ak 3) (ao (aJ aF.up eQ (ak 0) aG) (ao (aJ aF.up Dl (ak 1) aG) aR))))))))))
theorem cL:bx ["size","keep","kind","by_cell","line","stroke","cell"] ["size","keep","kind"] (aL (top 25)):=⟨rfl,rfl,rfl,by decide +kernel,rfl,by decide +kernel,by decide +kernel⟩
theorem qi(T:Txt mg)(D:bu K mg "longest_by_cell" (top 25) ["size","keep","kind"]){d:Ads}(Z:Xt K mg d)(Ib:FnAt P w K mg base "lines_of" 1 ["size","kind"] (spM K XR0 lK))(su:FnAt P w K mg base "longest_strokes" 3 ["size","keep","kind","line"] (spO K XR0 dR))(jz:FnAt P w K mg base "stroke_cells" 1 ["stroke"] (spO K XR0 dq)):FnAt P w K mg base "longest_by_cell" 4 ["size","keep","kind"] (spO K XR0 cB):=by
 refine D.ok cL (λvs H Q E h=>nY h λps r e=>match ps,e with|[_,_,_],_=>rfl) (λf cdv A outer s H vs Q E hr h=>?_)
 refine⟨_,(aB (aX (i:=3) cL.nd rfl (Or.inl rfl) mL)
   (aB (iC ZaY rfl (jW rfl T.jO (aj (aW Ib (hr.mono (by decide)) rfl (aj (pv 0) (aj (pv 2) aM))) aM)) (eE (i:=4) cL.nd rfl (Or.inl rfl))
    (aO (iC ZaY rfl (kZ (aW su (hr.mono (by decide)) rfl (aj (pv 0) (aj (pv 1) (aj (pv 2) (aj (pv 4) aM)))))) (eE (i:=5) cL.nd rfl (Or.inl rfl))
     (aO (iC ZaY rfl (kZ (aW jz (hr.mono (by decide)) rfl (aj (pv 5) aM))) (eE (i:=6) cL.nd rfl (Or.inl rfl))
      (aO (uE (qx hr) (pv 3) (pv 6) (pv 5) rfl)))))))
   (aO (bj (pv 3))))),nW (b:=fY) (k:=3) (n:=4) rfl (λps r e=>match ps,e with|[_,_,_],e=>⟨rfl,e⟩) h λio H0 F0 hio=>?_⟩
 exact(aQ (qK (i:=3) trivial qT)
   (aQ (ji (qO (ao (cA (ao (ak 0) (ao (ak 2) aR))) aR)) (aN 4)
    (ji (lq (cP (kW (ao (ak 0) (ao (ak 1) (ao (ak 2) (ao (ak 4) aR))))))) (aN 5)
     (ji (lq (cP (kW (ao (ak 5) aR)))) (aN 6)
      (Iv (ak 5) (ak 6)))))
   (Dg 3 hio)))
theorem gj:bx ["size","away","keep","along_row","along_column","crossed","cell"] ["size","away","keep"] (aL (top 26)):=⟨rfl,rfl,rfl,by decide +kernel,rfl,by decide +kernel,by decide +kernel⟩
theorem Ci(T:Txt mg)(D:bu K mg "crossings" (top 26) ["size","away","keep"]){d:Ads}(Z:Xt K mg d)(jP:FnAt P w K mg base "longest_by_cell" 4 ["size","keep","kind"] (spO K XR0 cB))(lR:FnAt P w K mg base "cells_of" 3 ["size","some"] (spO K XR0 fJ)):FnAt P w K mg base "crossings" 5 ["size","away","keep"] (spD K XR0 iz):=by
 refine D.ok gj (λvs H Q E h=>Iz h λps r e=>match ps,e with|[_,_,_],_=>rfl) (λf cdv A outer s H vs Q E hr h=>?_)
 refine⟨_,(aB (aX (i:=3) gj.nd rfl (Or.inl rfl) (aW jP (hr.mono (by decide)) rfl (aj (pv 0) (aj (pv 2) (aj (Dc rfl T.JR) aM)))))
   (aB (aX (i:=4) gj.nd rfl (Or.inl rfl) (aW jP (hr.mono (by decide)) rfl (aj (pv 0) (aj (pv 2) (aj (Dc rfl T.Qg) aM)))))
   (aB (aX (i:=5) gj.nd rfl (Or.inl rfl) mL)
   (aB (iC ZaY rfl (kZ (aW lR (hr.mono (by decide)) rfl (aj (pv 0) (aj (pv 1) aM)))) (eE (i:=6) gj.nd rfl (Or.inl rfl))
    (aO (zU (Th PySem.F.plainAttrs_list PySem.F.slot_list_append PySem.F.type_list_append sS (Hr (qx hr) (pv 5) (mY hr (pv 3) (pv 6) (λ_ _=>rfl)) (vm aM) ⟨rfl,rfl,rfl,rfl⟩) (aj (mY hr (pv 4) (pv 6) (λ_ _=>rfl)) aM)))))
   (aO (bj (pv 5))))))),Iw (b:=nj) (k:=3) (n:=4) rfl (λps r e=>match ps,e with|[_,_,_],e=>⟨rfl,e⟩) h λio H0 F0 hio=>?_⟩
 exact(aQ (bD (cP (kW (ao (ak 0) (ao (ak 2) (ao vD aR))))) (aN 3))
   (aQ (bD (cP (kW (ao (ak 0) (ao (ak 2) (ao vD aR))))) (aN 4))
   (aQ (uI (i:=5) trivial (Vn qT))
   (aQ (ji (lq (cP (kW (ao (ak 0) (ao (ak 1) aR))))) (aN 6)
    (KR (i:=5) (qW (eG 3) (ak 6)) (qW (eG 4) (ak 6))))
   (Nz 5)))))
theorem bV:bx ["size","away","keep","both","crossed","column_of","short","strokes","apart"] ["size","away","keep"] (aL (top 27)):=⟨rfl,rfl,rfl,by decide +kernel,rfl,by decide +kernel,by decide +kernel⟩
theorem sr(T:Txt mg)(D:bu K mg "fewest_strokes" (top 27) ["size","away","keep"]){d:Ads}(Z:Xt K mg d)(lR:FnAt P w K mg base "cells_of" 3 ["size","some"] (spO K XR0 fJ))(Gg:FnAt P w K mg base "crossings" 5 ["size","away","keep"] (spD K XR0 iz))(Cm:FnAt P w K mg base "most_pairs" 2 ["wishes"] (spO K XR0 fV))(sE:FnAt P w K mg base "short_of_givers" 2 ["wishes","giver_of"] (spM K XR0 dN))(Qh:FnAt P w K mg base "set_of" 2 ["size","cells"] (spM K XR0 rM)):Jr P w K mg base "fewest_strokes" 6 ["size","away","keep"] (spM K (XRS K) du):=by
 refine bu.okX D bV (λvs H Q E h=>dC h λps r e=>match ps,e with|[_,_,_],_=>rfl) (λf cdv A outer s H vs Q E hr h=>?_)
 refine⟨_,(aB (aX (i:=3) bV.nd rfl (Or.inl rfl) (aW lR (hr.mono (by decide)) rfl (aj (pv 0) (aj (aU sI (pv 1) (pv 2)) aM))))
   (aB (gr (bY LR (bQ jX rfl T.zN (by decide +kernel) (aj (pv 3) aM)) aC (dg _))
    (aO (La (k:=0) Z.u_Kept (hr.mono (by decide)) rfl K9 (aj (bO bH (bO bH (pv 3) aC (λ_ _=>rfl)) aC (λ_ _=>rfl)) (aj (bO bH (bO bH (pv 3) aC (λ_ _=>rfl)) aC (λ_ _=>rfl)) aM))))
    cM)
   (aB (aX (i:=4) bV.nd rfl (Or.inl rfl) (aW Gg (hr.mono (by decide)) rfl (aj (pv 0) (aj (pv 1) (aj (pv 2) aM)))))
   (aB (aX (i:=5) bV.nd rfl (Or.inl rfl) (aW Cm (hr.mono (by decide)) rfl (aj (pv 4) aM)))
   (aB (aX (i:=6) bV.nd rfl (Or.inr rfl) (aW sE (hr.mono (by decide)) rfl (aj (pv 4) (aj (pv 5) aM))))
   (aB (aX (i:=7) bV.nd rfl (Or.inl rfl) (aU Al (uJ 4 (gP ["stroke","short"] [none,some 6] rfl (wG (pv 4)) (λ_ _ _ _ _=>(cU (i:=0) (by decide +kernel) rfl rfl)) (λ_ _ _ _ _=>(vq (bY (Hd hr) (pvl 0) (bO lr (pvf 1) aC (λ_ _=>rfl)) (by with_unfolding_all rfl)))) (λ_ _ _ _ _=>(pvl 0)))) (bO bH (pv 6) aC (λ_ _=>rfl))))
   (aB (aX (i:=8) bV.nd rfl (Or.inl rfl) (aW Qh (hr.mono (by decide)) rfl (aj (pv 0) (aj (uJ 5 (gP ["along_row","along_column"] [none,none] rfl (zm (pv 5)) (λ_ _ _ _ _=>(uD (n:=2) rfl (gW (cU (i:=0) (by decide +kernel) rfl rfl) (gW (cU (i:=1) (by decide +kernel) rfl rfl) uB)))) (λ_ _ _ _ _=>vp) (λ_ _ _ _ _=>(fC (aj (bO lr (pvl 1) aC (λ_ _=>rfl)) (aj (bO lr (pvl 0) aC (λ_ _=>rfl)) aM)))))) aM))))
   (aO (bj (fC (aj (bQ oU rfl T.xO (by decide +kernel) (aj (pv 7) aM)) (aj (aW lR (hr.mono (by decide)) rfl (aj (pv 0) (aj (pv 8) aM))) aM)))))))))))),R4 (b:=cg) (k:=3) (n:=6) rfl (λps r e=>match ps,e with|[_,_,_],e=>⟨rfl,e⟩) h λio H0 F0 hio=>?_⟩
 exact(aQ (bD (cP (wK (ao (ak 0) (ao (aJ aF.up yP (ak 1) (ak 2)) aR)))) (aN 3))
   (aQ (gw (bR (aJ aF.up Va (sX yR (bL 3)) aG))
    (Lb rfl Z.u_Kept (by decide) (ao (aJ aF.up dB (aJ aF.up dB (ak 3) aG) aG) (ao (aJ aF.up dB (aJ aF.up dB (ak 3) aG) aG) aR)))
    cO)
   (aQ (uI (i:=4) trivial (O5 (ao (ak 0) (ao (ak 1) (ao (ak 2) aR)))))
   (aQ (Bb 4 (bD (cP (wK (ao (ak 4) aR))) (aN 5)))
   (aQ (bD (Es (ao (ak 4) (ao (ak 5) aR))) (aN 6))
   (aQ (bD (cP (MN aV.up Ni (nP (O6 (uK 4 (λ_ _=>jB (tH 4) (aN 0) (dI 0) (bR (aJ aH.up Q4 (bL 0) (dW (aJ aF.up dB (ak 1) aG)))) (ak 0))))) (Ae (aJ aF.up dB (ak 6) aG)))) (aN 7))
   (aQ (bD (Es (ao (ak 0) (ao (cP (O6 (uK 5 (λ_ _=>jB (wI 5) (Ah (gZ (aN 0) (gZ (aN 1) uF))) (Aq (ie (dI 0) (ie (dI 1) uG))) vL (gC (ao (aJ aF.up dB (ak 1) aG) (ao (aJ aF.up dB (ak 0) aG) aR))))))) aR))) (aN 8))
   (bW (gC (ao (cP (vM Jm (qJ 7))) (ao (cP (wK (ao (ak 0) (ao (ak 8) aR)))) aR)))))))))))
theorem tV:bx ["_law_script","_law_k","_law_number"] ["_law_script","_law_k"] (aL (top 29)):=⟨rfl,rfl,rfl,by decide +kernel,rfl,by decide +kernel,by decide +kernel⟩
theorem Lw(T:Txt mg)(D:bu K mg "_law_cell" (top 29) ["_law_script","_law_k"]){d:Ads}(Z:Xt K mg d):FnAt P w K mg base "_law_cell" 1 ["_law_script","_law_k"] (spM K XR0 d8):=by
 refine D.ok tV (λvs H Q E h=>dC h λps r e=>match ps,e with|[_,_],_=>rfl) (λf cdv A outer s H vs Q E hr h=>?_)
 refine⟨_,(aB (gr (bY GX (pv 1) (bQ jX rfl T.zN (by decide +kernel) (aj (pv 0) aM)) (dg _))
    (aO (bj (bO bH (pv 0) (pv 1) (λ_ _=>rfl))))
    cM)
   (aB (aX (i:=2) tV.nd rfl (Or.inl rfl) (aU cj (aU cX (pv 1) (pv 1)) aC))
   (aB (gr (bY LR (bQ jX rfl T.zN (by decide +kernel) (aj (pv 0) aM)) aC (dg _))
    (aO (aX (i:=2) tV.nd rfl (Or.inl rfl) (aU cj (pv 2) (aU fB (bO bH (pv 0) (aU fB (aU cX (pv 1) aC) (bQ jX rfl T.zN (by decide +kernel) (aj (pv 0) aM))) (λ_ _=>rfl)) aC))))
    cM)
   (aO (bj (aU fB (aU cX (pv 2) (pv 2)) aC)))))),dM (b:=nq) (k:=2) (n:=1) rfl (λps r e=>match ps,e with|[_,_],e=>⟨rfl,e⟩) h λio H0 F0 hio=>?_⟩
 exact(aQ (gw (bR (aJ aF.up Vb (ak 1) (sX yR (bL 0))))
    (bW (aJ aF.up dB (ak 0) (ak 1)))
    cO)
   (aQ (bD (aJ aF.up eQ (aJ aF.up g8 (ak 1) (ak 1)) aG) (aN 2))
   (aQ (gw (bR (aJ aF.up Va (sX yR (bL 0)) aG))
    (bD (aJ aF.up eQ (ak 2) (aJ aF.up jk (aJ aF.up dB (ak 0) (aJ aF.up jk (aJ aF.up g8 (ak 1) aG) (sX yR (bL 0)))) aG)) (aN 2))
    cO)
   (bW (aJ aF.up jk (aJ aF.up g8 (ak 2) (ak 2)) aG)))))
theorem qj:bx ["_law_cell_here","_law_k","_law_number"] ["_law_cell_here","_law_k"] (aL (top 30)):=⟨rfl,rfl,rfl,by decide +kernel,rfl,by decide +kernel,by decide +kernel⟩
theorem HY(T:Txt mg)(D:bu K mg "_law_mixed" (top 30) ["_law_cell_here","_law_k"]){d:Ads}(Z:Xt K mg d):FnAt P w K mg base "_law_mixed" 1 ["_law_cell_here","_law_k"] (spM K XR0 cI):=by
 refine D.ok qj (λvs H Q E h=>dC h λps r e=>match ps,e with|[_,_],_=>rfl) (λf cdv A outer s H vs Q E hr h=>?_)
 refine⟨_,(aB (gr (bY Wq (pv 0) (aU Uw aC aC) (dg _))
    (aO (bj (aU sI (aU Gu (pv 0) (aU cX aC (pv 1))) aC)))
    cM)
   (aB (aX (i:=2) qj.nd rfl (Or.inl rfl) (aU fB (aU cX (aU cj (aU cj (aU cj (aU fB (pv 0) aC) (aU cX (aU cX aC (pv 1)) (pv 1))) (pv 1)) aC) aC) aC))
   (aB (aX (i:=2) qj.nd rfl (Or.inl rfl) (aU fB (aU cX (pv 2) (pv 2)) aC))
   (aO (bj (aU fB (aU cX (aU cj (pv 2) (pv 1)) aC) aC)))))),dM (b:=lL) (k:=2) (n:=1) rfl (λps r e=>match ps,e with|[_,_],e=>⟨rfl,e⟩) h λio H0 F0 hio=>?_⟩
 exact(aQ (gw (bR (aJ aF.up Yc (ak 0) (aJ aF.up WR aG aG)))
    (bW (aJ aF.up yP (aJ aF.up Nh (ak 0) (aJ aF.up g8 aG (ak 1))) aG))
    cO)
   (aQ (bD (aJ aF.up jk (aJ aF.up g8 (aJ aF.up eQ (aJ aF.up eQ (aJ aF.up eQ (aJ aF.up jk (ak 0) aG) (aJ aF.up g8 (aJ aF.up g8 aG (ak 1)) (ak 1))) (ak 1)) aG) aG) aG) (aN 2))
   (aQ (bD (aJ aF.up jk (aJ aF.up g8 (ak 2) (ak 2)) aG) (aN 2))
   (bW (aJ aF.up jk (aJ aF.up g8 (aJ aF.up eQ (ak 2) (ak 1)) aG) aG)))))
theorem zM:bx ["_law_cell_here","_law_number"] ["_law_cell_here"] (aL (top 31)):=⟨rfl,rfl,rfl,by decide +kernel,rfl,by decide +kernel,by decide +kernel⟩
theorem Lx(T:Txt mg)(D:bu K mg "_law_size" (top 31) ["_law_cell_here"]){d:Ads}(Z:Xt K mg d)(gk:FnAt P w K mg base "_law_mixed" 1 ["_law_cell_here","_law_k"] (spM K XR0 cI)):FnAt P w K mg base "_law_size" 2 ["_law_cell_here"] (spM K XR0 iB):=by
 refine D.ok zM (λvs H Q E h=>dC h λps r e=>match ps,e with|[_],_=>rfl) (λf cdv A outer s H vs Q E hr h=>?_)
 refine⟨_,(aB (aX (i:=1) zM.nd rfl (Or.inl rfl) (aW gk (hr.mono (by decide)) rfl (aj (pv 0) (aj aC aM))))
   (aB (gr (bY (kY hr) (aU fB (aW gk (hr.mono (by decide)) rfl (aj (pv 0) (aj aC aM))) aC) aC (dg _))
    (aO (bj (fC (aj (aU cj aC (aU fB (pv 1) aC)) (aj (aU cj aC (aU fB (aU uC (pv 1) aC) aC)) aM)))))
    cM)
   (aO (bj (fC (aj (aU cj aC (aU fB (pv 1) aC)) (aj (aU cj aC (aU fB (aU uC (pv 1) aC) aC)) aM))))))),dM (b:=jJ) (k:=1) (n:=1) rfl (λps r e=>match ps,e with|[_],e=>⟨rfl,e⟩) h λio H0 F0 hio=>?_⟩
 exact(aQ (bD (cA (ao (ak 0) (ao aG aR))) (aN 1))
   (aQ (gw (bR (aJ aH.up Am (dW (aJ aF.up jk (cA (ao (ak 0) (ao aG aR))) aG)) (dW aG)))
    (bW (gC (ao (aJ aF.up eQ aG (aJ aF.up jk (ak 1) aG)) (ao (aJ aF.up eQ aG (aJ aF.up jk (aJ aF.up Ir (ak 1) aG) aG)) aR))))
    cO)
   (bW (gC (ao (aJ aF.up eQ aG (aJ aF.up jk (ak 1) aG)) (ao (aJ aF.up eQ aG (aJ aF.up jk (aJ aF.up Ir (ak 1) aG) aG)) aR))))))
theorem jy:bx ["_law_size_here","_law_cell_here","_law_k","_law_many","_law_number","_law_j","_law_kind"] ["_law_size_here","_law_cell_here","_law_k"] (aL (top 32)):=⟨rfl,rfl,rfl,by decide +kernel,rfl,by decide +kernel,by decide +kernel⟩
theorem Qf(T:Txt mg)(D:bu K mg "_law_set" (top 32) ["_law_size_here","_law_cell_here","_law_k"]){d:Ads}(Z:Xt K mg d)(gk:FnAt P w K mg base "_law_mixed" 1 ["_law_cell_here","_law_k"] (spM K XR0 cI)):FnAt P w K mg base "_law_set" 2 ["_law_size_here","_law_cell_here","_law_k"] (spM K XR0 gJ):=by
 refine D.ok jy (λvs H Q E h=>dC h λps r e=>match ps,e with|[_,_,_],_=>rfl) (λf cdv A outer s H vs Q E hr h=>?_)
 refine⟨_,(aB (aX (i:=3) jy.nd rfl (Or.inl rfl) (aU cX (bO bH (pv 0) aC (λ_ _=>rfl)) (bO bH (pv 0) aC (λ_ _=>rfl))))
   (aB (aX (i:=4) jy.nd rfl (Or.inl rfl) aC)
   (aB (iC ZaY rfl (jW rfl T.jO (aj (aU cj aC (aU uC (pv 3) aC)) aM)) (eE (i:=5) jy.nd rfl (Or.inl rfl))
    (aO (aX (i:=4) jy.nd rfl (Or.inl rfl) (aU cj (aU cX (pv 4) aC) (aW gk (hr.mono (by decide)) rfl (aj (pv 1) (aj (aU cj (aU cX aC (pv 2)) (pv 5)) aM)))))))
   (aB (aX (i:=4) jy.nd rfl (Or.inl rfl) (aU fB (pv 4) (aU Gr aC (pv 3))))
   (aB (aX (i:=6) jy.nd rfl (Or.inl rfl) (aU fB (aW gk (hr.mono (by decide)) rfl (aj (pv 1) (aj (aU cj (aU cX aC (pv 2)) aC) aM))) aC))
   (aB (gr (bY (kY hr) (pv 6) aC (dg _))
    (aO (bj (aU vg (aU Gr aC (pv 3)) aC)))
    cM)
   (aB (gr (bY (kY hr) (pv 6) aC (dg _))
    (aO (bj aC))
    cM)
   (aO (bj (pv 4)))))))))),dM (b:=lM) (k:=3) (n:=4) rfl (λps r e=>match ps,e with|[_,_,_],e=>⟨rfl,e⟩) h λio H0 F0 hio=>?_⟩
 exact(aQ (bD (aJ aF.up g8 (aJ aF.up dB (ak 0) aG) (aJ aF.up dB (ak 0) aG)) (aN 3))
   (aQ (bD aG (aN 4))
   (aQ (ji (qO (ao (aJ aF.up eQ aG (aJ aF.up Ir (ak 3) aG)) aR)) (aN 5)
    (bD (aJ aF.up eQ (aJ aF.up g8 (ak 4) aG) (cA (ao (ak 1) (ao (aJ aF.up eQ (aJ aF.up g8 aG (ak 2)) (ak 5)) aR)))) (aN 4)))
   (aQ (bD (aJ aF.up jk (ak 4) (aJ aF.up Ng aG (ak 3))) (aN 4))
   (aQ (bD (aJ aF.up jk (cA (ao (ak 1) (ao (aJ aF.up eQ (aJ aF.up g8 aG (ak 2)) aG) aR))) aG) (aN 6))
   (aQ (gw (bR (aJ aH.up Am (bL 6) (dW aG)))
    (bW (aJ aF.up Dl (aJ aF.up Ng aG (ak 3)) aG))
    cO)
   (aQ (gw (bR (aJ aH.up Am (bL 6) (dW aG)))
    (bW aG)
    cO)
   (bW (ak 4)))))))))
theorem iU:bx ["_law_size_here","_law_away","_law_keep","_law_error","e"] ["_law_size_here","_law_away","_law_keep"] (aL (top 33)):=⟨rfl,rfl,rfl,by decide +kernel,rfl,by decide +kernel,by decide +kernel⟩
theorem Cj(T:Txt mg)(D:bu K mg "_law_refusal" (top 33) ["_law_size_here","_law_away","_law_keep"]){d:Ads}(Z:Xt K mg d)(tW:Jr P w K mg base "fewest_strokes" 6 ["size","away","keep"] (spM K (XRS K) du)):FnAt P w K mg base "_law_refusal" 7 ["_law_size_here","_law_away","_law_keep"] (spM K XR0 cu):=by
 refine D.ok iU (λvs H Q E h=>dC h λps r e=>match ps,e with|[_,_,_],_=>rfl) (λf cdv A outer s H vs Q E hr h=>?_)
 refine⟨_,(aB (aX (i:=3) iU.nd rfl (Or.inl rfl) mG)
   (aB (VD rfl rfl (K6 (K5 tW (hr.mono (by decide)) rfl (aj (pv 0) (aj (pv 1) (aj (pv 2) aM)))))
    (Xk rfl Z.g_BlockError Z.ca_BlockError iU.nd (i:=4) rfl rfl (λ_=>(aO (aX (i:=3) iU.nd rfl (Or.inl rfl) (pv 4)))) VB))
   (aO (bj (pv 3))))),dM (b:=fZ) (k:=3) (n:=2) rfl (λps r e=>match ps,e with|[_,_,_],e=>⟨rfl,e⟩) h λio H0 F0 hio=>?_⟩
 exact(aQ (bD mQ (aN 3))
   (aQ (VG (OJ (OD (ao (ak 0) (ao (ak 1) (ao (ak 2) aR)))))
    (Xn Z.n_BlockError (tR Z) (bD (ak 4) (aN 3)) VH))
   (bW (ak 3))))
theorem ql:bx ["_law_size_here","_law_both","_law_row","_law_column"] ["_law_size_here","_law_both"] (aL (top 34)):=⟨rfl,rfl,rfl,by decide +kernel,rfl,by decide +kernel,by decide +kernel⟩
theorem Ia(T:Txt mg)(D:bu K mg "_law_first" (top 34) ["_law_size_here","_law_both"]){d:Ads}(Z:Xt K mg d):FnAt P w K mg base "_law_first" 1 ["_law_size_here","_law_both"] (spM K XR0 iT):=by
 refine D.ok ql (λvs H Q E h=>dC h λps r e=>match ps,e with|[_,_],_=>rfl) (λf cdv A outer s H vs Q E hr h=>?_)
 refine⟨_,(aB (iC ZaY rfl (jW rfl T.jO (aj (bO bH (pv 0) aC (λ_ _=>rfl)) aM)) (eE (i:=2) ql.nd rfl (Or.inl rfl))
    (aO (iC ZaY rfl (jW rfl T.jO (aj (bO bH (pv 0) aC (λ_ _=>rfl)) aM)) (eE (i:=3) ql.nd rfl (Or.inl rfl))
     (aO (gr (bY (kY hr) (aU sI (aU Gu (pv 1) (aU cj (aU cX (pv 2) (bO bH (pv 0) aC (λ_ _=>rfl))) (pv 3))) aC) aC (dg _))
      (aO (bj (fC (aj (pv 3) (aj (pv 2) aM)))))
      cM)))))
   (aO (bj mG))),dM (b:=iR) (k:=2) (n:=2) rfl (λps r e=>match ps,e with|[_,_],e=>⟨rfl,e⟩) h λio H0 F0 hio=>?_⟩
 exact(aQ (ji (qO (ao (aJ aF.up dB (ak 0) aG) aR)) (aN 2)
    (ji (qO (ao (aJ aF.up dB (ak 0) aG) aR)) (aN 3)
     (gw (bR (aJ aH.up Am (dW (aJ aF.up yP (aJ aF.up Nh (ak 1) (aJ aF.up eQ (aJ aF.up g8 (ak 2) (aJ aF.up dB (ak 0) aG)) (ak 3))) aG)) (dW aG)))
      (bW (gC (ao (ak 3) (ao (ak 2) aR))))
      cO)))
   (bW mQ))
theorem oH:bx ["_law_size_here","_law_away","_law_keep","_law_due","_law_error","_law_part"] ["_law_size_here","_law_away","_law_keep"] (aL (top 35)):=⟨rfl,rfl,rfl,by decide +kernel,rfl,by decide +kernel,by decide +kernel⟩
theorem Ly(T:Txt mg)(D:bu K mg "_law_good" (top 35) ["_law_size_here","_law_away","_law_keep"]){d:Ads}(Z:Xt K mg d)(Cp:FnAt P w K mg base "_law_first" 1 ["_law_size_here","_law_both"] (spM K XR0 iT))(gm:FnAt P w K mg base "_law_refusal" 7 ["_law_size_here","_law_away","_law_keep"] (spM K XR0 cu)):FnAt P w K mg base "_law_good" 8 ["_law_size_here","_law_away","_law_keep"] (spM K XR0 jL):=by
 refine D.ok oH (λvs H Q E h=>dC h λps r e=>match ps,e with|[_,_,_],_=>rfl) (λf cdv A outer s H vs Q E hr h=>?_)
 refine⟨_,(aB (aX (i:=3) oH.nd rfl (Or.inl rfl) (aW Cp (hr.mono (by decide)) rfl (aj (pv 0) (aj (aU sI (pv 1) (pv 2)) aM))))
   (aB (aX (i:=4) oH.nd rfl (Or.inl rfl) (aW gm (hr.mono (by decide)) rfl (aj (pv 0) (aj (pv 1) (aj (pv 2) aM)))))
   (aB (gr (bY Ma (pv 3) mG (dg _))
    (aO (bj (zY Ma (pv 4) mG (dg _))))
    cM)
   (aB (gr (PW.pt (yr (zT (jb (bQ (kh (T:=.ref d.x_Kept) (Tv:=.ref d.x_Kept) rfl (λ_ h=>h)) rfl T.cZ (by decide +kernel) (aj (pv 4) (aj (Et rfl Z.g_Kept) aM))))) (yr (zT (jb (bQ (kh (T:=.ty "ValueError") (Tv:=.type "ValueError") rfl (λ_ h=>h)) rfl T.cZ (by decide +kernel) (aj (pv 4) (aj (Mm rfl T.Ck (n:="ValueError") (by decide +kernel)) aM))))) (zR (jb (bQ (kh (T:=.ref d.x_NoStroke) (Tv:=.ref d.x_NoStroke) rfl (λ_ h=>h)) rfl T.cZ (by decide +kernel) (aj (pv 4) (aj (Et rfl Z.g_NoStroke) aM))))))))
    (aO (bj u6))
    cM)
   (aB (gr (PW.pt (yr (jb (bQ (kh (T:=.ref d.x_NoStack) (Tv:=.ref d.x_NoStack) rfl (λ_ h=>h)) rfl T.cZ (by decide +kernel) (aj (pv 4) (aj (Et rfl Z.g_NoStack) aM)))) (yr (jb (bQ (kh (T:=.ref d.x_NoDeed) (Tv:=.ref d.x_NoDeed) rfl (λ_ h=>h)) rfl T.cZ (by decide +kernel) (aj (pv 4) (aj (Et rfl Z.g_NoDeed) aM)))) (zR (jb (bQ (kh (T:=.ref d.x_Wrong) (Tv:=.ref d.x_Wrong) rfl (λ_ h=>h)) rfl T.cZ (by decide +kernel) (aj (pv 4) (aj (Et rfl Z.g_Wrong) aM))))))))
    (aO (bj u6))
    cM)
   (aB (iC ZaY rfl (kZ (vm (aj (rK K rfl (pv 4) rfl) (aj (rK K rfl (pv 4) rfl) aM)))) (eE (i:=5) oH.nd rfl (Or.inl rfl))
    (aO (gr (PW.pt (yr (zT (jb (bQ Dn rfl T.cZ (by decide +kernel) (aj (pv 5) (aj (Mm rfl T.XF (n:="int") (by decide +kernel)) aM))))) (zR (jb (bQ Dn rfl T.cZ (by decide +kernel) (aj (pv 5) (aj (Mm rfl T.Wf (n:="bool") (by decide +kernel)) aM)))))))
     (aO (bj u6))
     cM)))
   (aO (bj (zY (kY hr) (fC (aj (rK K rfl (pv 4) rfl) (aj (rK K rfl (pv 4) rfl) aM))) (pv 3) (dg _)))))))))),dM (b:=jK) (k:=3) (n:=3) rfl (λps r e=>match ps,e with|[_,_,_],e=>⟨rfl,e⟩) h λio H0 F0 hio=>?_⟩
 exact(aQ (bD (cA (ao (ak 0) (ao (aJ aF.up yP (ak 1) (ak 2)) aR))) (aN 3))
   (aQ (bD (cA (ao (ak 0) (ao (ak 1) (ao (ak 2) aR)))) (aN 4))
   (aQ (gw (bR (aJ aH.up Tw (bL 3) mQ))
    (bW (aJ aH.up Tw (bL 4) mQ))
    cO)
   (aQ (gw (yK (Af (jg (tK (T:=.ref d.x_Kept) (HX Z) Z.no_Kept (bL 4)))) (yK (Af (jg (tK (T:=.ty "ValueError") (tU Z) Z.nob_ValueError (bL 4)))) (jg (tK (T:=.ref d.x_NoStroke) (xN Z) Z.no_NoStroke (bL 4)))))
    (bW vC)
    cO)
   (aQ (gw (yK (jg (tK (T:=.ref d.x_NoStack) (ym Z) Z.no_NoStack (bL 4))) (yK (jg (tK (T:=.ref d.x_NoDeed) (BV Z) Z.no_NoDeed (bL 4))) (jg (tK (T:=.ref d.x_Wrong) (Fz Z) Z.no_Wrong (bL 4)))))
    (bW vC)
    cO)
   (aQ (ji (lq (cP (Ag (ao (uV (rZ Z) (ak 4)) (ao (uV (zL Z) (ak 4)) aR))))) (aN 5)
    (gw (yK (Af (jg (Ar aH.up WY (bL 5) Tp))) (jg (Ar aH.up WY (bL 5) Tp)))
     (bW vC)
     cO))
   (bW (aJ aH.up Am (dW (gC (ao (uV (rZ Z) (ak 4)) (ao (uV (zL Z) (ak 4)) aR)))) (bL 3)))))))))
theorem qm:bx ["_law_script","_law_size_here","_law_k","_law_cell_here","_law_away","_law_keep","_law_both"] ["_law_script"] (aL (top 36)):=⟨rfl,rfl,rfl,by decide +kernel,rfl,by decide +kernel,by decide +kernel⟩
theorem Wd(T:Txt mg){f:Addr}{fd:FuncData}(F:Fun K "law" "law" (top 36) f fd){d:Ads}(Z:Xt K mg d)(Gh:FnAt P w K mg base "_law_size" 2 ["_law_cell_here"] (spM K XR0 iB))(uq:FnAt P w K mg base "_law_cell" 1 ["_law_script","_law_k"] (spM K XR0 d8))(xQ:FnAt P w K mg base "_law_set" 2 ["_law_size_here","_law_cell_here","_law_k"] (spM K XR0 gJ))(Gi:FnAt P w K mg base "_law_good" 8 ["_law_size_here","_law_away","_law_keep"] (spM K XR0 jL))(gm:FnAt P w K mg base "_law_refusal" 7 ["_law_size_here","_law_away","_law_keep"] (spM K XR0 cu)):pJ P w K mg base CX0 9 f fd ["_law_script"] (spM K XR0 zA):=by
 refine F.ok qm (λvs H Q E h=>dC h λps r e=>match ps,e with|[_],_=>rfl) (λcdv A outer s H vs Q E hr h=>?_)
 refine⟨_,(aB (aX (i:=1) qm.nd rfl (Or.inl rfl) (aW Gh (hr.mono (by decide)) rfl (aj (aW uq (hr.mono (by decide)) rfl (aj (pv 0) (aj aC aM))) aM)))
   (aB (iC ZaY rfl (sG rfl T.jO (aj aC (aj (bQ (J3 rfl) rfl T.XH (by decide +kernel) (aj aC (aj (bQ (J5 rfl) rfl T.XJ (by decide +kernel) (aj (bQ jX rfl T.zN (by decide +kernel) (aj (pv 0) aM)) (aj aC aM))) aM))) aM))) (eE (i:=2) qm.nd rfl (Or.inl rfl))
    (aB (aX (i:=3) qm.nd rfl (Or.inl rfl) (aW uq (hr.mono (by decide)) rfl (aj (pv 0) (aj (pv 2) aM))))
    (aB (aX (i:=4) qm.nd rfl (Or.inl rfl) (aW xQ (hr.mono (by decide)) rfl (aj (pv 1) (aj (pv 3) (aj aC aM)))))
    (aB (aX (i:=5) qm.nd rfl (Or.inl rfl) (aW xQ (hr.mono (by decide)) rfl (aj (pv 1) (aj (pv 3) (aj aC aM)))))
    (aB (gr (zT (jb (aW Gi (hr.mono (by decide)) rfl (aj (pv 1) (aj (pv 4) (aj (pv 5) aM))))))
     (aO (bj u6))
     cM)
    (aB (aX (i:=6) qm.nd rfl (Or.inl rfl) (aU sI (pv 4) (pv 5)))
    (aB (gr (PW.pt (yr (bY zW (aW gm (hr.mono (by decide)) rfl (aj (pv 1) (aj (aU vg (pv 4) (pv 6)) (aj (pv 5) aM)))) mG (dg _)) (zR (bY zW (aW gm (hr.mono (by decide)) rfl (aj (pv 1) (aj (pv 4) (aj (aU vg (pv 5) (pv 6)) aM)))) mG (dg _)))))
     (aO (bj u6))
     cM)
    (aO (gr (bY LR (aU cX (bO bH (pv 1) aC (λ_ _=>rfl)) (bO bH (pv 1) aC (λ_ _=>rfl))) aC (dg _))
     (aO (bj u6))
     cM)))))))))
   (aO (bj u6)))),dM (b:=JF) (k:=1) (n:=6) rfl (λps r e=>match ps,e with|[_],e=>⟨rfl,e⟩) h λio H0 F0 hio=>?_⟩
 exact(aQ (bD (cA (ao (cA (ao (ak 0) (ao aG aR))) aR)) (aN 1))
   (aQ (ji (Ao (ao aG (ao (Ar aF.up W0 aG (Ar aF.up W2 (sX yR (bL 0)) aG)) aR))) (aN 2)
    (aQ (bD (cA (ao (ak 0) (ao (ak 2) aR))) (aN 3))
    (aQ (bD (cA (ao (ak 1) (ao (ak 3) (ao aG aR)))) (aN 4))
    (aQ (bD (cA (ao (ak 1) (ao (ak 3) (ao aG aR)))) (aN 5))
    (aQ (gw (Af (jg (cA (ao (ak 1) (ao (ak 4) (ao (ak 5) aR))))))
     (bW vC)
     cO)
    (aQ (bD (aJ aF.up yP (ak 4) (ak 5)) (aN 6))
    (aQ (gw (yK (bR (aJ aH.up GZ (dW (cA (ao (ak 1) (ao (aJ aF.up Dl (ak 4) (ak 6)) (ao (ak 5) aR))))) mQ)) (bR (aJ aH.up GZ (dW (cA (ao (ak 1) (ao (ak 4) (ao (aJ aF.up Dl (ak 5) (ak 6)) aR))))) mQ)))
     (bW vC)
     cO)
    (gw (bR (aJ aF.up Va (aJ aF.up g8 (aJ aF.up dB (ak 1) aG) (aJ aF.up dB (ak 1) aG)) aG))
     (bW vC)
     cO))))))))
   (bW vC)))
end
theorem We{l:PySem.W.OpenLaw}{w:World}{K:PySem.W.Frag}{h:Heap}{mg:Str->Option Value}{fa f0 f1 f2 f3 f4 f5 f6 f7 f8 f9 f10 f11 f12 f13 f14 f15 f16 f17 f18 f19 f20 f21 f22 f23:Addr}(X:K.In h)(G:h.Ns mainGlobals mg)(hfa:mg "law"=some (.ref fa))
  {od0 an0 od1 an1 od2 an2 od3 an3 od4 an4 od5 an5 od6 an6 od7 an7 od8 an8 od9 an9 od10 an10 od11 an11 od12 an12 od13 an13 od14 an14 od15 an15 od16 an16 od17 an17 od18 an18 od19 an19 od20 an20 od21 an21 od22 an22 od23 an23:Option Addr}{sl0 sl1 sl2 sl3 sl4 sl5 sl6 sl7 sl8 sl9 sl10 sl11 sl12 sl13 sl14 sl15 sl16 sl17 sl18 sl19 sl20 sl21 sl22 sl23:Array (Option Value)}{oc0 kV0 dc0 pm0 cd0 ct0 oc1 kV1 dc1 pm1 cd1 ct1 oc2 kV2 dc2 pm2 cd2 ct2 oc3 kV3 dc3 pm3 cd3 ct3 oc4 kV4 dc4 pm4 cd4 ct4 oc5 kV5 dc5 pm5 cd5 ct5 oc6 kV6 dc6 pm6 cd6 ct6 oc7 kV7 dc7 pm7 cd7 ct7 oc8 kV8 dc8 pm8 cd8 ct8 oc9 kV9 dc9 pm9 cd9 ct9 oc10 kV10 dc10 pm10 cd10 ct10 oc11 kV11 dc11 pm11 cd11 ct11 oc12 kV12 dc12 pm12 cd12 ct12 oc13 kV13 dc13 pm13 cd13 ct13 oc14 kV14 dc14 pm14 cd14 ct14 oc15 kV15 dc15 pm15 cd15 ct15 oc16 kV16 dc16 pm16 cd16 ct16 oc17 kV17 dc17 pm17 cd17 ct17 oc18 kV18 dc18 pm18 cd18 ct18 oc19 kV19 dc19 pm19 cd19 ct19 oc20 kV20 dc20 pm20 cd20 ct20 oc21 kV21 dc21 pm21 cd21 ct21 oc22 kV22 dc22 pm22 cd22 ct22 oc23 kV23 dc23 pm23 cd23 ct23:Value}{t_COLUMN t_ROW:Tok}
  (a0:nsIn K mainGlobals "place_of"=some (some (.ref f0)))(l0:K.lookup f0=some ⟨oc0,od0,.func (fnOf "place_of" "place_of" (bA (top 8)) (aZ (top 8)) (aL (top 8)) .none kV0 dc0 pm0 an0 cd0 ct0),sl0⟩)(c0:codeIn K cd0 "place_of"=true)(k0:keepIn K (.ref f0)=true)
  (a1:nsIn K mainGlobals "has_cell"=some (some (.ref f1)))(l1:K.lookup f1=some ⟨oc1,od1,.func (fnOf "has_cell" "has_cell" (bA (top 9)) (aZ (top 9)) (aL (top 9)) .none kV1 dc1 pm1 an1 cd1 ct1),sl1⟩)(c1:codeIn K cd1 "has_cell"=true)(k1:keepIn K (.ref f1)=true)
  (a2:nsIn K mainGlobals "all_cells"=some (some (.ref f2)))(l2:K.lookup f2=some ⟨oc2,od2,.func (fnOf "all_cells" "all_cells" (bA (top 10)) (aZ (top 10)) (aL (top 10)) .none kV2 dc2 pm2 an2 cd2 ct2),sl2⟩)(c2:codeIn K cd2 "all_cells"=true)(k2:keepIn K (.ref f2)=true)
  (a3:nsIn K mainGlobals "set_of"=some (some (.ref f3)))(l3:K.lookup f3=some ⟨oc3,od3,.func (fnOf "set_of" "set_of" (bA (top 11)) (aZ (top 11)) (aL (top 11)) .none kV3 dc3 pm3 an3 cd3 ct3),sl3⟩)(c3:codeIn K cd3 "set_of"=true)(k3:keepIn K (.ref f3)=true)
  (a4:nsIn K mainGlobals "cells_of"=some (some (.ref f4)))(l4:K.lookup f4=some ⟨oc4,od4,.func (fnOf "cells_of" "cells_of" (bA (top 12)) (aZ (top 12)) (aL (top 12)) .none kV4 dc4 pm4 an4 cd4 ct4),sl4⟩)(c4:codeIn K cd4 "cells_of"=true)(k4:keepIn K (.ref f4)=true)
  (a5:nsIn K mainGlobals "walked"=some (some (.ref f5)))(l5:K.lookup f5=some ⟨oc5,od5,.func (fnOf "walked" "walked" (bA (top 14)) (aZ (top 14)) (aL (top 14)) .none kV5 dc5 pm5 an5 cd5 ct5),sl5⟩)(c5:codeIn K cd5 "walked"=true)(k5:keepIn K (.ref f5)=true)
  (a6:nsIn K mainGlobals "pair_anew"=some (some (.ref f6)))(l6:K.lookup f6=some ⟨oc6,od6,.func (fnOf "pair_anew" "pair_anew" (bA (top 15)) (aZ (top 15)) (aL (top 15)) .none kV6 dc6 pm6 an6 cd6 ct6),sl6⟩)(c6:codeIn K cd6 "pair_anew"=true)(k6:keepIn K (.ref f6)=true)
  (a7:nsIn K mainGlobals "most_pairs"=some (some (.ref f7)))(l7:K.lookup f7=some ⟨oc7,od7,.func (fnOf "most_pairs" "most_pairs" (bA (top 16)) (aZ (top 16)) (aL (top 16)) .none kV7 dc7 pm7 an7 cd7 ct7),sl7⟩)(c7:codeIn K cd7 "most_pairs"=true)(k7:keepIn K (.ref f7)=true)
  (a8:nsIn K mainGlobals "short_of_givers"=some (some (.ref f8)))(l8:K.lookup f8=some ⟨oc8,od8,.func (fnOf "short_of_givers" "short_of_givers" (bA (top 17)) (aZ (top 17)) (aL (top 17)) .none kV8 dc8 pm8 an8 cd8 ct8),sl8⟩)(c8:codeIn K cd8 "short_of_givers"=true)(k8:keepIn K (.ref f8)=true)
  (a9:nsIn K mainGlobals "lines_of"=some (some (.ref f9)))(l9:K.lookup f9=some ⟨oc9,od9,.func (fnOf "lines_of" "lines_of" (bA (top 21)) (aZ (top 21)) (aL (top 21)) .none kV9 dc9 pm9 an9 cd9 ct9),sl9⟩)(c9:codeIn K cd9 "lines_of"=true)(k9:keepIn K (.ref f9)=true)
  (a10:nsIn K mainGlobals "length_of"=some (some (.ref f10)))(l10:K.lookup f10=some ⟨oc10,od10,.func (fnOf "length_of" "length_of" (bA (top 22)) (aZ (top 22)) (aL (top 22)) .none kV10 dc10 pm10 an10 cd10 ct10),sl10⟩)(c10:codeIn K cd10 "length_of"=true)(k10:keepIn K (.ref f10)=true)
  (a11:nsIn K mainGlobals "stroke_cells"=some (some (.ref f11)))(l11:K.lookup f11=some ⟨oc11,od11,.func (fnOf "stroke_cells" "stroke_cells" (bA (top 23)) (aZ (top 23)) (aL (top 23)) .none kV11 dc11 pm11 an11 cd11 ct11),sl11⟩)(c11:codeIn K cd11 "stroke_cells"=true)(k11:keepIn K (.ref f11)=true)
  (a12:nsIn K mainGlobals "longest_strokes"=some (some (.ref f12)))(l12:K.lookup f12=some ⟨oc12,od12,.func (fnOf "longest_strokes" "longest_strokes" (bA (top 24)) (aZ (top 24)) (aL (top 24)) .none kV12 dc12 pm12 an12 cd12 ct12),sl12⟩)(c12:codeIn K cd12 "longest_strokes"=true)(k12:keepIn K (.ref f12)=true)
  (a13:nsIn K mainGlobals "longest_by_cell"=some (some (.ref f13)))(l13:K.lookup f13=some ⟨oc13,od13,.func (fnOf "longest_by_cell" "longest_by_cell" (bA (top 25)) (aZ (top 25)) (aL (top 25)) .none kV13 dc13 pm13 an13 cd13 ct13),sl13⟩)(c13:codeIn K cd13 "longest_by_cell"=true)(k13:keepIn K (.ref f13)=true)
  (a14:nsIn K mainGlobals "crossings"=some (some (.ref f14)))(l14:K.lookup f14=some ⟨oc14,od14,.func (fnOf "crossings" "crossings" (bA (top 26)) (aZ (top 26)) (aL (top 26)) .none kV14 dc14 pm14 an14 cd14 ct14),sl14⟩)(c14:codeIn K cd14 "crossings"=true)(k14:keepIn K (.ref f14)=true)
  (a15:nsIn K mainGlobals "fewest_strokes"=some (some (.ref f15)))(l15:K.lookup f15=some ⟨oc15,od15,.func (fnOf "fewest_strokes" "fewest_strokes" (bA (top 27)) (aZ (top 27)) (aL (top 27)) .none kV15 dc15 pm15 an15 cd15 ct15),sl15⟩)(c15:codeIn K cd15 "fewest_strokes"=true)(k15:keepIn K (.ref f15)=true)
  (a16:nsIn K mainGlobals "_law_cell"=some (some (.ref f16)))(l16:K.lookup f16=some ⟨oc16,od16,.func (fnOf "_law_cell" "_law_cell" (bA (top 29)) (aZ (top 29)) (aL (top 29)) .none kV16 dc16 pm16 an16 cd16 ct16),sl16⟩)(c16:codeIn K cd16 "_law_cell"=true)(k16:keepIn K (.ref f16)=true)
  (a17:nsIn K mainGlobals "_law_mixed"=some (some (.ref f17)))(l17:K.lookup f17=some ⟨oc17,od17,.func (fnOf "_law_mixed" "_law_mixed" (bA (top 30)) (aZ (top 30)) (aL (top 30)) .none kV17 dc17 pm17 an17 cd17 ct17),sl17⟩)(c17:codeIn K cd17 "_law_mixed"=true)(k17:keepIn K (.ref f17)=true)
  (a18:nsIn K mainGlobals "_law_size"=some (some (.ref f18)))(l18:K.lookup f18=some ⟨oc18,od18,.func (fnOf "_law_size" "_law_size" (bA (top 31)) (aZ (top 31)) (aL (top 31)) .none kV18 dc18 pm18 an18 cd18 ct18),sl18⟩)(c18:codeIn K cd18 "_law_size"=true)(k18:keepIn K (.ref f18)=true)
  (a19:nsIn K mainGlobals "_law_set"=some (some (.ref f19)))(l19:K.lookup f19=some ⟨oc19,od19,.func (fnOf "_law_set" "_law_set" (bA (top 32)) (aZ (top 32)) (aL (top 32)) .none kV19 dc19 pm19 an19 cd19 ct19),sl19⟩)(c19:codeIn K cd19 "_law_set"=true)(k19:keepIn K (.ref f19)=true)
  (a20:nsIn K mainGlobals "_law_refusal"=some (some (.ref f20)))(l20:K.lookup f20=some ⟨oc20,od20,.func (fnOf "_law_refusal" "_law_refusal" (bA (top 33)) (aZ (top 33)) (aL (top 33)) .none kV20 dc20 pm20 an20 cd20 ct20),sl20⟩)(c20:codeIn K cd20 "_law_refusal"=true)(k20:keepIn K (.ref f20)=true)
  (a21:nsIn K mainGlobals "_law_first"=some (some (.ref f21)))(l21:K.lookup f21=some ⟨oc21,od21,.func (fnOf "_law_first" "_law_first" (bA (top 34)) (aZ (top 34)) (aL (top 34)) .none kV21 dc21 pm21 an21 cd21 ct21),sl21⟩)(c21:codeIn K cd21 "_law_first"=true)(k21:keepIn K (.ref f21)=true)
  (a22:nsIn K mainGlobals "_law_good"=some (some (.ref f22)))(l22:K.lookup f22=some ⟨oc22,od22,.func (fnOf "_law_good" "_law_good" (bA (top 35)) (aZ (top 35)) (aL (top 35)) .none kV22 dc22 pm22 an22 cd22 ct22),sl22⟩)(c22:codeIn K cd22 "_law_good"=true)(k22:keepIn K (.ref f22)=true)
  (a23:nsIn K mainGlobals "law"=some (some (.ref f23)))(l23:K.lookup f23=some ⟨oc23,od23,.func (fnOf "law" "law" (bA (top 36)) (aZ (top 36)) (aL (top 36)) .none kV23 dc23 pm23 an23 cd23 ct23),sl23⟩)(c23:codeIn K cd23 "law"=true)(k23:keepIn K (.ref f23)=true)
  {x_Kept x_BlockError x_NoStroke x_NoStack x_NoDeed x_Wrong Cr:Addr}
  {dd_Kept iod_Kept ian_Kept:Option Addr}{cd_Kept:ClassData}{k0_Kept k1_Kept k2_Kept k3_Kept k5_Kept:Option Value}{bm_Kept:List Value}{isl_Kept:Array (Option Value)}{ioc_Kept ikV_Kept idc_Kept ipm_Kept icd_Kept ict_Kept:Value}
  {qoc_Kept:Value}{qod_Kept:Option Addr}{qcd_Kept:ClassData}{qsl_Kept:Array (Option Value)}
  {qoc_NoDeed:Value}{qod_NoDeed:Option Addr}{qcd_NoDeed:ClassData}{qsl_NoDeed:Array (Option Value)}
  {qoc_NoStack:Value}{qod_NoStack:Option Addr}{qcd_NoStack:ClassData}{qsl_NoStack:Array (Option Value)}
  {qoc_NoStroke:Value}{qod_NoStroke:Option Addr}{qcd_NoStroke:ClassData}{qsl_NoStroke:Array (Option Value)}
  {qoc_Wrong:Value}{qod_Wrong:Option Addr}{qcd_Wrong:ClassData}{qsl_Wrong:Array (Option Value)}
  {toc_BlockError:Value}{tod_BlockError:Option Addr}{tcd_BlockError:ClassData}{tsl_BlockError:Array (Option Value)}
  (lU:nsIn K mainGlobals "ValueError"=some none)(Ie:nsIn K mainGlobals "bool"=some none)(Ig:nsIn K mainGlobals "dict"=some none)(nM:nsIn K mainGlobals "enumerate"=some none)(Qi:nsIn K mainGlobals "int"=some none)(lV:nsIn K mainGlobals "isinstance"=some none)(Qj:nsIn K mainGlobals "len"=some none)(Ii:nsIn K mainGlobals "list"=some none)(Qk:nsIn K mainGlobals "max"=some none)(Ql:nsIn K mainGlobals "min"=some none)(Cu:nsIn K mainGlobals "range"=some none)(xR:nsIn K mainGlobals "sorted"=some none)(Qm:nsIn K mainGlobals "zip"=some none)(xT:nsIn K mainGlobals "COLUMN"=some (some (.str "column" t_COLUMN)))(Qn:nsIn K mainGlobals "ROW"=some (some (.str "row" t_ROW)))(nx_Kept:nsIn K mainGlobals "Kept"=some (some (.ref x_Kept)))(nx_BlockError:nsIn K mainGlobals "BlockError"=some (some (.ref x_BlockError)))(nx_NoStroke:nsIn K mainGlobals "NoStroke"=some (some (.ref x_NoStroke)))(nx_NoStack:nsIn K mainGlobals "NoStack"=some (some (.ref x_NoStack)))(nx_NoDeed:nsIn K mainGlobals "NoDeed"=some (some (.ref x_NoDeed)))(nx_Wrong:nsIn K mainGlobals "Wrong"=some (some (.ref x_Wrong)))(lx_Kept:K.lookup x_Kept=some ⟨.type "type",dd_Kept,.cls cd_Kept,#[k0_Kept,k1_Kept,k2_Kept,k3_Kept,some (.builtin "ValueError.__new__"),k5_Kept]⟩)(h1_Kept:cd_Kept.hasDel=false)(h2_Kept:cd_Kept.hasDict=true)(h3_Kept:cd_Kept.mro=.ref x_Kept::bm_Kept)(h4_Kept:gF bm_Kept=true)(h5_Kept:cd_Kept.name="Kept")(sa_Kept:PySem.W.findIn K (.ref x_Kept) "__setattr__"=some (some (.builtin "object.__setattr__")))(in_Kept:PySem.W.findIn K (.ref x_Kept) "__init__"=some (some (.ref Cr)))(fn_Kept:PySem.W.typeIn K (.ref Cr)=some (.type "function"))(kp_Kept:keepIn K (.ref x_Kept)=true)(li_Kept:K.lookup Cr=some ⟨ioc_Kept,iod_Kept,.func (fnOf "__init__" "Kept.__init__" (bA (inClass (top 3) 0)) (aZ (inClass (top 3) 0)) (aL (inClass (top 3) 0)) .none ikV_Kept idc_Kept ipm_Kept ian_Kept icd_Kept ict_Kept),isl_Kept⟩)(ci_Kept:codeIn K icd_Kept "Kept.__init__"=true)(kj_Kept:keepIn K (.ref Cr)=true)(xa_Kept:PySem.W.findIn K (.ref x_Kept) "__getattribute__"=some (some (.builtin "BaseException.__getattribute__")))(xg_Kept:PySem.W.findIn K (.ref x_Kept) "__getattr__"=some none)(xh_Kept:PySem.W.subIn K (.ref x_Kept) (.type "BaseException")=some true)(sf_Kept:PySem.W.subIn K (.ref x_Kept) (.ref x_Kept)=some true)(xb_Kept:PySem.W.hasDictIn K x_Kept=true)(xc_Kept:PySem.W.findIn K (.ref x_Kept) "__class__"=some (some (.builtin "object.__class__")))(xd_Kept:PySem.W.specialIn K (.builtin "object.__class__") "__get__"=some (some (.builtin "getset_descriptor.__get__")))(xe_Kept:PySem.W.takesIn K (.builtin "object.__class__")=some true)(xf_Kept:PySem.W.mroIn K x_Kept (.type "object")=some true)(fl_Kept_column:PySem.W.findIn K (.ref x_Kept) "column"=some none)(fl_Kept_row:PySem.W.findIn K (.ref x_Kept) "row"=some none)(tl_BlockError:K.lookup x_BlockError=some ⟨toc_BlockError,tod_BlockError,.cls tcd_BlockError,tsl_BlockError⟩)(tn_BlockError:PySem.W.instIn K (.ref x_BlockError) (.type "tuple")=some false)(tb_BlockError:PySem.W.subIn K (.ref x_BlockError) (.type "BaseException")=some true)(s_Kept_BlockError:PySem.W.subIn K (.ref x_Kept) (.ref x_BlockError)=some true)(ql_Kept:K.lookup x_Kept=some ⟨qoc_Kept,qod_Kept,.cls qcd_Kept,qsl_Kept⟩)(qt_Kept:PySem.W.typeIn K (.ref x_Kept)=some (.type "type"))(qn_Kept:PySem.W.subIn K (.type "NoneType") (.ref x_Kept)=some false)(qs_Kept_Kept:PySem.W.subIn K (.ref x_Kept) (.ref x_Kept)=some true)(ql_NoDeed:K.lookup x_NoDeed=some ⟨qoc_NoDeed,qod_NoDeed,.cls qcd_NoDeed,qsl_NoDeed⟩)(qt_NoDeed:PySem.W.typeIn K (.ref x_NoDeed)=some (.type "type"))(qn_NoDeed:PySem.W.subIn K (.type "NoneType") (.ref x_NoDeed)=some false)(qs_Kept_NoDeed:PySem.W.subIn K (.ref x_Kept) (.ref x_NoDeed)=some false)(ql_NoStack:K.lookup x_NoStack=some ⟨qoc_NoStack,qod_NoStack,.cls qcd_NoStack,qsl_NoStack⟩)(qt_NoStack:PySem.W.typeIn K (.ref x_NoStack)=some (.type "type"))(qn_NoStack:PySem.W.subIn K (.type "NoneType") (.ref x_NoStack)=some false)(qs_Kept_NoStack:PySem.W.subIn K (.ref x_Kept) (.ref x_NoStack)=some false)(ql_NoStroke:K.lookup x_NoStroke=some ⟨qoc_NoStroke,qod_NoStroke,.cls qcd_NoStroke,qsl_NoStroke⟩)(qt_NoStroke:PySem.W.typeIn K (.ref x_NoStroke)=some (.type "type"))(qn_NoStroke:PySem.W.subIn K (.type "NoneType") (.ref x_NoStroke)=some false)(qs_Kept_NoStroke:PySem.W.subIn K (.ref x_Kept) (.ref x_NoStroke)=some false)(ql_Wrong:K.lookup x_Wrong=some ⟨qoc_Wrong,qod_Wrong,.cls qcd_Wrong,qsl_Wrong⟩)(qt_Wrong:PySem.W.typeIn K (.ref x_Wrong)=some (.type "type"))(qn_Wrong:PySem.W.subIn K (.type "NoneType") (.ref x_Wrong)=some false)(qs_Kept_Wrong:PySem.W.subIn K (.ref x_Kept) (.ref x_Wrong)=some false)(qb_Kept_ValueError:PySem.W.subIn K (.ref x_Kept) (.type "ValueError")=some true) :
  ∃ fd:FuncData,(∀ (s:Shared) (v:Value),BindsTo s fd ⟨[v],[]⟩ [("_law_script",v)])/\∀ base:Heap,K.In base->base.Ns mainGlobals mg->pJ l.prog w K mg base CX0 9 fa fd ["_law_script"] (spM K XR0 zA):=by
 have e:=hfa.symm.trans (Zay X G a23);cases e;have T:Txt mg:=⟨trivial,ZaR X G lU,ZaR X G Ie,ZaR X G Ig,ZaR X G nM,ZaR X G Qi,ZaR X G lV,ZaR X G Qj,ZaR X G Ii,ZaR X G Qk,ZaR X G Ql,ZaR X G Cu,ZaR X G xR,ZaR X G Qm,⟨_,Zay X G xT⟩,⟨_,Zay X G Qn⟩⟩;have FX_Kept:=cC (st:=inClass (top 3) 0) li_Kept ci_Kept kj_Kept;have Y_Kept:=VL lx_Kept h1_Kept h2_Kept h3_Kept h4_Kept sa_Kept in_Kept fn_Kept kp_Kept;have U_Kept:R6 K mg "Kept" ["column","row"] x_Kept:=⟨⟨_,_,_,["self","column","row"],Y_Kept,FX_Kept.binds (ps:=["self","column","row"]) λ_ _ _ _ _ _ us hl=>by obtain⟨_,_,_,rfl⟩:=xZ hl;rfl,λP w base=>Lq FX_Kept Y_Kept.toXCls fl_Kept_column fl_Kept_row⟩,VM nx_Kept lx_Kept h5_Kept,⟨xa_Kept,xg_Kept,xh_Kept,xb_Kept,xc_Kept,xd_Kept,xe_Kept,xf_Kept⟩,Zay X G nx_Kept,λf hf=>by
  simp only[Zaw,List.mem_nil_iff,or_false] at hf;rcases hf with rfl|rfl
  ·exact fl_Kept_column
  ·exact fl_Kept_row⟩
 have QN_Kept:PySem.W.kitOne K (.type "NoneType") (.ref x_Kept)=some false:=dh ⟨⟨_,_,_,_,ql_Kept⟩,qt_Kept⟩ qn_Kept (λh=>by cases h)
 have QS_Kept_Kept:PySem.W.kitOne K (.ref x_Kept) (.ref x_Kept)=some true:=dh ⟨⟨_,_,_,_,ql_Kept⟩,qt_Kept⟩ qs_Kept_Kept (λ_=>rfl);have QN_NoDeed:PySem.W.kitOne K (.type "NoneType") (.ref x_NoDeed)=some false:=dh ⟨⟨_,_,_,_,ql_NoDeed⟩,qt_NoDeed⟩ qn_NoDeed (λh=>by cases h)
 have QS_Kept_NoDeed:PySem.W.kitOne K (.ref x_Kept) (.ref x_NoDeed)=some false:=dh ⟨⟨_,_,_,_,ql_NoDeed⟩,qt_NoDeed⟩ qs_Kept_NoDeed (λh=>by rw[<-Value.ref.inj h,sf_Kept] at qs_Kept_NoDeed;cases qs_Kept_NoDeed)
 have QN_NoStack:PySem.W.kitOne K (.type "NoneType") (.ref x_NoStack)=some false:=dh ⟨⟨_,_,_,_,ql_NoStack⟩,qt_NoStack⟩ qn_NoStack (λh=>by cases h)
 have QS_Kept_NoStack:PySem.W.kitOne K (.ref x_Kept) (.ref x_NoStack)=some false:=dh ⟨⟨_,_,_,_,ql_NoStack⟩,qt_NoStack⟩ qs_Kept_NoStack (λh=>by rw[<-Value.ref.inj h,sf_Kept] at qs_Kept_NoStack;cases qs_Kept_NoStack)
 have QN_NoStroke:PySem.W.kitOne K (.type "NoneType") (.ref x_NoStroke)=some false:=dh ⟨⟨_,_,_,_,ql_NoStroke⟩,qt_NoStroke⟩ qn_NoStroke (λh=>by cases h)
 have QS_Kept_NoStroke:PySem.W.kitOne K (.ref x_Kept) (.ref x_NoStroke)=some false:=dh ⟨⟨_,_,_,_,ql_NoStroke⟩,qt_NoStroke⟩ qs_Kept_NoStroke (λh=>by rw[<-Value.ref.inj h,sf_Kept] at qs_Kept_NoStroke;cases qs_Kept_NoStroke)
 have QN_Wrong:PySem.W.kitOne K (.type "NoneType") (.ref x_Wrong)=some false:=dh ⟨⟨_,_,_,_,ql_Wrong⟩,qt_Wrong⟩ qn_Wrong (λh=>by cases h)
 have QS_Kept_Wrong:PySem.W.kitOne K (.ref x_Kept) (.ref x_Wrong)=some false:=dh ⟨⟨_,_,_,_,ql_Wrong⟩,qt_Wrong⟩ qs_Kept_Wrong (λh=>by rw[<-Value.ref.inj h,sf_Kept] at qs_Kept_Wrong;cases qs_Kept_Wrong)
 have Z:Xt K mg ⟨x_Kept,x_BlockError,x_NoStroke,x_NoStack,x_NoDeed,x_Wrong⟩:=⟨U_Kept,nx_Kept,Zay X G nx_Kept,nx_BlockError,Zay X G nx_BlockError,nx_NoStroke,Zay X G nx_NoStroke,nx_NoStack,Zay X G nx_NoStack,nx_NoDeed,Zay X G nx_NoDeed,nx_Wrong,Zay X G nx_Wrong,⟨⟨_,_,_,_,tl_BlockError⟩,tn_BlockError,tb_BlockError⟩,s_Kept_BlockError,QN_Kept,QS_Kept_Kept,QN_NoDeed,QS_Kept_NoDeed,QN_NoStack,QS_Kept_NoStack,QN_NoStroke,QS_Kept_NoStroke,QN_Wrong,QS_Kept_Wrong,(by kernel_rfl),(K8 (by kernel_rfl) qb_Kept_ValueError)⟩
 have F0:=cC (st:=top 8) l0 c0 k0;have D0:bu K mg "place_of" (top 8) ["size","cell"]:=⟨⟨_,_,Zay X G a0,F0,F0.binds λ_ _ _ _ _ _ us hl=>by obtain⟨_,_,rfl⟩:=xY hl;rfl⟩⟩
 have F1:=cC (st:=top 9) l1 c1 k1;have D1:bu K mg "has_cell" (top 9) ["size","some","cell"]:=⟨⟨_,_,Zay X G a1,F1,F1.binds λ_ _ _ _ _ _ us hl=>by obtain⟨_,_,_,rfl⟩:=xZ hl;rfl⟩⟩
 have F2:=cC (st:=top 10) l2 c2 k2;have D2:bu K mg "all_cells" (top 10) ["size"]:=⟨⟨_,_,Zay X G a2,F2,F2.binds λ_ _ _ _ _ _ us hl=>by obtain⟨_,rfl⟩:=Ov hl;rfl⟩⟩
 have F3:=cC (st:=top 11) l3 c3 k3;have D3:bu K mg "set_of" (top 11) ["size","cells"]:=⟨⟨_,_,Zay X G a3,F3,F3.binds λ_ _ _ _ _ _ us hl=>by obtain⟨_,_,rfl⟩:=xY hl;rfl⟩⟩
 have F4:=cC (st:=top 12) l4 c4 k4;have D4:bu K mg "cells_of" (top 12) ["size","some"]:=⟨⟨_,_,Zay X G a4,F4,F4.binds λ_ _ _ _ _ _ us hl=>by obtain⟨_,_,rfl⟩:=xY hl;rfl⟩⟩
 have F5:=cC (st:=top 14) l5 c5 k5;have D5:bu K mg "walked" (top 14) ["wishes","asker_of","starts"]:=⟨⟨_,_,Zay X G a5,F5,F5.binds λ_ _ _ _ _ _ us hl=>by obtain⟨_,_,_,rfl⟩:=xZ hl;rfl⟩⟩
 have F6:=cC (st:=top 15) l6 c6 k6;have D6:bu K mg "pair_anew" (top 15) ["giver_of","asker_of","came_by","free"]:=⟨⟨_,_,Zay X G a6,F6,F6.binds λ_ _ _ _ _ _ us hl=>by obtain⟨_,_,_,_,rfl⟩:=Xd hl;rfl⟩⟩
 have F7:=cC (st:=top 16) l7 c7 k7;have D7:bu K mg "most_pairs" (top 16) ["wishes"]:=⟨⟨_,_,Zay X G a7,F7,F7.binds λ_ _ _ _ _ _ us hl=>by obtain⟨_,rfl⟩:=Ov hl;rfl⟩⟩
 have F8:=cC (st:=top 17) l8 c8 k8;have D8:bu K mg "short_of_givers" (top 17) ["wishes","giver_of"]:=⟨⟨_,_,Zay X G a8,F8,F8.binds λ_ _ _ _ _ _ us hl=>by obtain⟨_,_,rfl⟩:=xY hl;rfl⟩⟩
 have F9:=cC (st:=top 21) l9 c9 k9;have D9:bu K mg "lines_of" (top 21) ["size","kind"]:=⟨⟨_,_,Zay X G a9,F9,F9.binds λ_ _ _ _ _ _ us hl=>by obtain⟨_,_,rfl⟩:=xY hl;rfl⟩⟩
 have F10:=cC (st:=top 22) l10 c10 k10;have D10:bu K mg "length_of" (top 22) ["size","kind"]:=⟨⟨_,_,Zay X G a10,F10,F10.binds λ_ _ _ _ _ _ us hl=>by obtain⟨_,_,rfl⟩:=xY hl;rfl⟩⟩
 have F11:=cC (st:=top 23) l11 c11 k11;have D11:bu K mg "stroke_cells" (top 23) ["stroke"]:=⟨⟨_,_,Zay X G a11,F11,F11.binds λ_ _ _ _ _ _ us hl=>by obtain⟨_,rfl⟩:=Ov hl;rfl⟩⟩
 have F12:=cC (st:=top 24) l12 c12 k12;have D12:bu K mg "longest_strokes" (top 24) ["size","keep","kind","line"]:=⟨⟨_,_,Zay X G a12,F12,F12.binds λ_ _ _ _ _ _ us hl=>by obtain⟨_,_,_,_,rfl⟩:=Xd hl;rfl⟩⟩
 have F13:=cC (st:=top 25) l13 c13 k13;have D13:bu K mg "longest_by_cell" (top 25) ["size","keep","kind"]:=⟨⟨_,_,Zay X G a13,F13,F13.binds λ_ _ _ _ _ _ us hl=>by obtain⟨_,_,_,rfl⟩:=xZ hl;rfl⟩⟩
 have F14:=cC (st:=top 26) l14 c14 k14;have D14:bu K mg "crossings" (top 26) ["size","away","keep"]:=⟨⟨_,_,Zay X G a14,F14,F14.binds λ_ _ _ _ _ _ us hl=>by obtain⟨_,_,_,rfl⟩:=xZ hl;rfl⟩⟩
 have F15:=cC (st:=top 27) l15 c15 k15;have D15:bu K mg "fewest_strokes" (top 27) ["size","away","keep"]:=⟨⟨_,_,Zay X G a15,F15,F15.binds λ_ _ _ _ _ _ us hl=>by obtain⟨_,_,_,rfl⟩:=xZ hl;rfl⟩⟩
 have F16:=cC (st:=top 29) l16 c16 k16;have D16:bu K mg "_law_cell" (top 29) ["_law_script","_law_k"]:=⟨⟨_,_,Zay X G a16,F16,F16.binds λ_ _ _ _ _ _ us hl=>by obtain⟨_,_,rfl⟩:=xY hl;rfl⟩⟩
 have F17:=cC (st:=top 30) l17 c17 k17;have D17:bu K mg "_law_mixed" (top 30) ["_law_cell_here","_law_k"]:=⟨⟨_,_,Zay X G a17,F17,F17.binds λ_ _ _ _ _ _ us hl=>by obtain⟨_,_,rfl⟩:=xY hl;rfl⟩⟩
 have F18:=cC (st:=top 31) l18 c18 k18;have D18:bu K mg "_law_size" (top 31) ["_law_cell_here"]:=⟨⟨_,_,Zay X G a18,F18,F18.binds λ_ _ _ _ _ _ us hl=>by obtain⟨_,rfl⟩:=Ov hl;rfl⟩⟩
 have F19:=cC (st:=top 32) l19 c19 k19;have D19:bu K mg "_law_set" (top 32) ["_law_size_here","_law_cell_here","_law_k"]:=⟨⟨_,_,Zay X G a19,F19,F19.binds λ_ _ _ _ _ _ us hl=>by obtain⟨_,_,_,rfl⟩:=xZ hl;rfl⟩⟩
 have F20:=cC (st:=top 33) l20 c20 k20;have D20:bu K mg "_law_refusal" (top 33) ["_law_size_here","_law_away","_law_keep"]:=⟨⟨_,_,Zay X G a20,F20,F20.binds λ_ _ _ _ _ _ us hl=>by obtain⟨_,_,_,rfl⟩:=xZ hl;rfl⟩⟩
 have F21:=cC (st:=top 34) l21 c21 k21;have D21:bu K mg "_law_first" (top 34) ["_law_size_here","_law_both"]:=⟨⟨_,_,Zay X G a21,F21,F21.binds λ_ _ _ _ _ _ us hl=>by obtain⟨_,_,rfl⟩:=xY hl;rfl⟩⟩
 have F22:=cC (st:=top 35) l22 c22 k22;have D22:bu K mg "_law_good" (top 35) ["_law_size_here","_law_away","_law_keep"]:=⟨⟨_,_,Zay X G a22,F22,F22.binds λ_ _ _ _ _ _ us hl=>by obtain⟨_,_,_,rfl⟩:=xZ hl;rfl⟩⟩
 have F23:=cC (st:=top 36) l23 c23 k23;refine⟨fnOf "law" "law" (bA (top 36)) (aZ (top 36)) (aL (top 36)) .none kV23 dc23 pm23 an23 cd23 ct23,λs v=>.of_eq rfl,λbase _ _=>?_⟩;have G0:=FN (P:=l.prog) (w:=w) (base:=base) T D0 Z;have G1:=FQ (P:=l.prog) (w:=w) (base:=base) T D1 Z G0;have G2:=BX (P:=l.prog) (w:=w) (base:=base) T D2 Z;have G3:=Lr (P:=l.prog) (w:=w) (base:=base) T D3 Z G0;have G4:=FW (P:=l.prog) (w:=w) (base:=base) T D4 Z G2 G1;have G5:=Ls (P:=l.prog) (w:=w) (base:=base) T D5 Z;have G6:=BZ (P:=l.prog) (w:=w) (base:=base) T D6 Z;have G7:=yo (P:=l.prog) (w:=w) (base:=base) T D7 Z G5 G6;have G8:=qe (P:=l.prog) (w:=w) (base:=base) T D8 Z G5;have G9:=Ga (P:=l.prog) (w:=w) (base:=base) T D9 Z;have G10:=Ce (P:=l.prog) (w:=w) (base:=base) T D10 Z;have G11:=uA (P:=l.prog) (w:=w) (base:=base) T D11 Z;have G12:=qg (P:=l.prog) (w:=w) (base:=base) T D12 Z G10 G11 G1;have G13:=qi (P:=l.prog) (w:=w) (base:=base) T D13 Z G9 G12 G11;have G14:=Ci (P:=l.prog) (w:=w) (base:=base) T D14 Z G13 G4;have G15:=sr (P:=l.prog) (w:=w) (base:=base) T D15 Z G4 G14 G7 G8 G3;have G16:=Lw (P:=l.prog) (w:=w) (base:=base) T D16 Z;have G17:=HY (P:=l.prog) (w:=w) (base:=base) T D17 Z;have G18:=Lx (P:=l.prog) (w:=w) (base:=base) T D18 Z G17;have G19:=Qf (P:=l.prog) (w:=w) (base:=base) T D19 Z G17;have G20:=Cj (P:=l.prog) (w:=w) (base:=base) T D20 Z G15;have G21:=Ia (P:=l.prog) (w:=w) (base:=base) T D21 Z;have G22:=Ly (P:=l.prog) (w:=w) (base:=base) T D22 Z G21 G20;exact Wd (P:=l.prog) (w:=w) (base:=base) T F23 Z G18 G16 G19 G22 G20
theorem walk{l:PySem.W.OpenLaw}{q:Program}{loose:List Str}{XP:(Str->Option Value)->Heap->Prop}{YP:World->Heap->Prop}{d:DefRec}{K:Params->PySem.W.Frag}(hn:l.most=some 63)(hdf:d.params.defaults=[])
  (hY:∀ (w:World) (h:Heap),YP w h->(K w.params).In h)
  (F:∀ (w:World) (mg:Str->Option Value) (fa:Addr) (h:Heap),(K w.params).In h->h.Ns mainGlobals mg->mg d.name=some (.ref fa) ->
   ∃ fd:FuncData,(∀ (s:Shared) (u:Value),BindsTo s fd ⟨[u],[]⟩ [("_law_script",u)])/\∀ base:Heap,(K w.params).In base->base.Ns mainGlobals mg->pJ l.prog w (K w.params) mg base CX0 9 fa fd ["_law_script"] (spM (K w.params) XR0 zA))
  (main:∀ ns:List Int,ns.length<=63->zA [.lst (ns.map PV.int)]=some (.ok (.bl true))) :
  PySem.W.WalkO q loose XP YP l.row.toRowW d [] (λf vs=>PySem.call f vs):=
 L2.QH (n:=63) (k:=9) (x:="_law_script") (CX:=λ_=>CX0) (sp:=λw=>spM (K w.params) XR0 zA) hn (by decide) hdf ⟨rfl,by decide,by decide⟩ hY F (λw H a ns hl _ hS=>⟨[.lst (ns.map PV.int)],H,.ok (.bl true),aP.refl _,bh.nil.cons (.lst hS (bh.Ad (K:=K w.params) (F:=H) ns).1 (bh.Ad ns).2),main ns hl,λv F' H' _ rv=>Rep.mO rv⟩) λ_ _ _ _ _ z=>z
end MM
open PySem PySem.W PyProof.Rows
set_option maxRecDepth 100000 in
set_option maxHeartbeats 0 in
theorem PySem.Challenge.cw_lostblock_k29_kept_cells_holds : PySem.Challenge.rw_lostblock_k29_kept_cells.Holds := by
 w_on;o_law;k_head;(case hw=>w_witness2)
 k_fill
 refine MM.walk (l:=PySem.Challenge.rw_lostblock_k29_kept_cells) rfl rfl (λw h Y=>PySem.W.kIn_of Y) ?F MM.law_main
 case F=>
  intro w mg fa h KX G hmg;refine' MM.We KX G hmg ?a0 ?l0 ?c0 ?k0 ?a1 ?l1 ?c1 ?k1 ?a2 ?l2 ?c2 ?k2 ?a3 ?l3 ?c3 ?k3 ?a4 ?l4 ?c4 ?k4 ?a5 ?l5 ?c5 ?k5 ?a6 ?l6 ?c6 ?k6 ?a7 ?l7 ?c7 ?k7 ?a8 ?l8 ?c8 ?k8 ?a9 ?l9 ?c9 ?k9 ?a10 ?l10 ?c10 ?k10 ?a11 ?l11 ?c11 ?k11 ?a12 ?l12 ?c12 ?k12 ?a13 ?l13 ?c13 ?k13 ?a14 ?l14 ?c14 ?k14 ?a15 ?l15 ?c15 ?k15 ?a16 ?l16 ?c16 ?k16 ?a17 ?l17 ?c17 ?k17 ?a18 ?l18 ?c18 ?k18 ?a19 ?l19 ?c19 ?k19 ?a20 ?l20 ?c20 ?k20 ?a21 ?l21 ?c21 ?k21 ?a22 ?l22 ?c22 ?k22 ?a23 ?l23 ?c23 ?k23 ?lU ?Ie ?Ig ?nM ?Qi ?lV ?Qj ?Ii ?Qk ?Ql ?Cu ?xR ?Qm ?xT ?Qn ?nx_Kept ?nx_BlockError ?nx_NoStroke ?nx_NoStack ?nx_NoDeed ?nx_Wrong ?lx_Kept ?h1_Kept ?h2_Kept ?h3_Kept ?h4_Kept ?h5_Kept ?sa_Kept ?in_Kept ?fn_Kept ?kp_Kept ?li_Kept ?ci_Kept ?kj_Kept ?xa_Kept ?xg_Kept ?xh_Kept ?sf_Kept ?xb_Kept ?xc_Kept ?xd_Kept ?xe_Kept ?xf_Kept ?fl_Kept_column ?fl_Kept_row ?tl_BlockError ?tn_BlockError ?tb_BlockError ?s_Kept_BlockError ?ql_Kept ?qt_Kept ?qn_Kept ?qs_Kept_Kept ?ql_NoDeed ?qt_NoDeed ?qn_NoDeed ?qs_Kept_NoDeed ?ql_NoStack ?qt_NoStack ?qn_NoStack ?qs_Kept_NoStack ?ql_NoStroke ?qt_NoStroke ?qn_NoStroke ?qs_Kept_NoStroke ?ql_Wrong ?qt_Wrong ?qn_Wrong ?qs_Kept_Wrong ?qb_Kept_ValueError
  (case a0=>k_is)
  (case l0=>k_is)
  (case c0=>k_is)
  (case k0=>k_is)
  (case a1=>k_is)
  (case l1=>k_is)
  (case c1=>k_is)
  (case k1=>k_is)
  (case a2=>k_is)
  (case l2=>k_is)
  (case c2=>k_is)
  (case k2=>k_is)
  (case a3=>k_is)
  (case l3=>k_is)
  (case c3=>k_is)
  (case k3=>k_is)
  (case a4=>k_is)
  (case l4=>k_is)
  (case c4=>k_is)
  (case k4=>k_is)
  (case a5=>k_is)
  (case l5=>k_is)
  (case c5=>k_is)
  (case k5=>k_is)
  (case a6=>k_is)
  (case l6=>k_is)
  (case c6=>k_is)
  (case k6=>k_is)
  (case a7=>k_is)
  (case l7=>k_is)
  (case c7=>k_is)
  (case k7=>k_is)
  (case a8=>k_is)
  (case l8=>k_is)
  (case c8=>k_is)
  (case k8=>k_is)
  (case a9=>k_is)
  (case l9=>k_is)
  (case c9=>k_is)
  (case k9=>k_is)
  (case a10=>k_is)
  (case l10=>k_is)
  (case c10=>k_is)
  (case k10=>k_is)
  (case a11=>k_is)
  (case l11=>k_is)
  (case c11=>k_is)
  (case k11=>k_is)
  (case a12=>k_is)
  (case l12=>k_is)
  (case c12=>k_is)
  (case k12=>k_is)
  (case a13=>k_is)
  (case l13=>k_is)
  (case c13=>k_is)
  (case k13=>k_is)
  (case a14=>k_is)
  (case l14=>k_is)
  (case c14=>k_is)
  (case k14=>k_is)
  (case a15=>k_is)
  (case l15=>k_is)
  (case c15=>k_is)
  (case k15=>k_is)
  (case a16=>k_is)
  (case l16=>k_is)
  (case c16=>k_is)
  (case k16=>k_is)
  (case a17=>k_is)
  (case l17=>k_is)
  (case c17=>k_is)
  (case k17=>k_is)
  (case a18=>k_is)
  (case l18=>k_is)
  (case c18=>k_is)
  (case k18=>k_is)
  (case a19=>k_is)
  (case l19=>k_is)
  (case c19=>k_is)
  (case k19=>k_is)
  (case a20=>k_is)
  (case l20=>k_is)
  (case c20=>k_is)
  (case k20=>k_is)
  (case a21=>k_is)
  (case l21=>k_is)
  (case c21=>k_is)
  (case k21=>k_is)
  (case a22=>k_is)
  (case l22=>k_is)
  (case c22=>k_is)
  (case k22=>k_is)
  (case a23=>k_is)
  (case l23=>k_is)
  (case c23=>k_is)
  (case k23=>k_is)
  (case lU=>k_is)
  (case Ie=>k_is)
  (case Ig=>k_is)
  (case nM=>k_is)
  (case Qi=>k_is)
  (case lV=>k_is)
  (case Qj=>k_is)
  (case Ii=>k_is)
  (case Qk=>k_is)
  (case Ql=>k_is)
  (case Cu=>k_is)
  (case xR=>k_is)
  (case Qm=>k_is)
  (case xT=>k_is)
  (case Qn=>k_is)
  (case nx_Kept=>k_is)
  (case nx_BlockError=>k_is)
  (case nx_NoStroke=>k_is)
  (case nx_NoStack=>k_is)
  (case nx_NoDeed=>k_is)
  (case nx_Wrong=>k_is)
  (case lx_Kept=>k_is)
  (case h1_Kept=>first|rfl|decide +kernel|k_is)
  (case h2_Kept=>first|rfl|decide +kernel|k_is)
  (case h3_Kept=>first|rfl|decide +kernel|k_is)
  (case h4_Kept=>first|rfl|decide +kernel|k_is)
  (case h5_Kept=>first|rfl|decide +kernel|k_is)
  (case sa_Kept=>k_is)
  (case in_Kept=>k_is)
  (case fn_Kept=>k_is)
  (case kp_Kept=>k_is)
  (case li_Kept=>k_is)
  (case ci_Kept=>k_is)
  (case kj_Kept=>k_is)
  (case xa_Kept=>k_is)
  (case xg_Kept=>k_is)
  (case xh_Kept=>k_is)
  (case sf_Kept=>k_is)
  (case xb_Kept=>k_is)
  (case xc_Kept=>k_is)
  (case xd_Kept=>k_is)
  (case xe_Kept=>k_is)
  (case xf_Kept=>k_is)
  (case fl_Kept_column=>k_is)
  (case fl_Kept_row=>k_is)
  (case tl_BlockError=>k_is)
  (case tn_BlockError=>k_is)
  (case tb_BlockError=>k_is)
  (case s_Kept_BlockError=>k_is)
  (case ql_Kept=>k_is)
  (case qt_Kept=>k_is)
  (case qn_Kept=>k_is)
  (case qs_Kept_Kept=>k_is)
  (case ql_NoDeed=>k_is)
  (case qt_NoDeed=>k_is)
  (case qn_NoDeed=>k_is)
  (case qs_Kept_NoDeed=>k_is)
  (case ql_NoStack=>k_is)
  (case qt_NoStack=>k_is)
  (case qn_NoStack=>k_is)
  (case qs_Kept_NoStack=>k_is)
  (case ql_NoStroke=>k_is)
  (case qt_NoStroke=>k_is)
  (case qn_NoStroke=>k_is)
  (case qs_Kept_NoStroke=>k_is)
  (case ql_Wrong=>k_is)
  (case qt_Wrong=>k_is)
  (case qn_Wrong=>k_is)
  (case qs_Kept_Wrong=>k_is)
  (case qb_Kept_ValueError=>k_is)
#print axioms PySem.Challenge.cw_lostblock_k29_kept_cells_holds
