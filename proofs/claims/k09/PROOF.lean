import PyProof.Rows.All
import Wide.All
import OpenK.AllK
import Wide.FinOn
import Lean
import PyProof.EqAt
import PyProof.EqKinds
import PyProof.TupleCall
import KE.BitLaws
import KE.KMinKey
import KE.KIntText
import KE.KDictList
import PySem.Challenge.RW_lampforge_k09_spread_copies
set_option genSizeOfSpec false
noncomputable section
set_option Elab.async false
set_option linter.all false
set_option maxRecDepth 100000
namespace L2
open PySem PySem.Spec PyProof.Rows
abbrev Key:=Sum Int Str
def keyIs:Key->Value->Bool
 | .inl k,v=>Value.isInt k v
 | .inr x,v=>Value.isStrOf x v
def keyH(w:World):Key->Int
 | .inl k=>hashInt k
 | .inr x=>hashStr w x
theorem y_q:∀ {k:Key} {v:Value},keyIs k v=true->(∃ i t,k=Sum.inl i/\v=Value.int i t)\/(∃ x t,k=Sum.inr x/\v=Value.str x t)
 | .inl i,v,h=>by
  obtain ⟨t,e⟩:=Value.isInt_shape (k:=i) (v:=v) h
  exact .inl ⟨i,t,rfl,e⟩
 | .inr x,v,h=>by
  obtain ⟨t,e⟩:=Value.isStrOf_shape (x:=x) (v:=v) h
  exact .inr ⟨x,t,rfl,e⟩
theorem keyIs_int(i:Int)(t:Tok):keyIs (.inl i) (.int i t)=true:=by simp [keyIs,Value.isInt]
theorem keyIs_str(x:Str)(t:Tok):keyIs (.inr x) (.str x t)=true:=by simp [keyIs,Value.isStrOf]
theorem key_ll(a b:Int):decide ((Sum.inl a:Key)=Sum.inl b)=(a == b):=by
 by_cases e:a=b
 ·subst e;simp
 ·have h:¬(Sum.inl a:Key)=Sum.inl b:=fun q=>e (Sum.inl.inj q)
  rw [decide_eq_false h]
  exact (beq_eq_false_iff_ne.mpr e).symm
theorem key_rr(a b:Str):decide ((Sum.inr a:Key)=Sum.inr b)=decide (a=b):=by
 by_cases e:a=b
 ·subst e;simp
 ·have h:¬(Sum.inr a:Key)=Sum.inr b:=fun q=>e (Sum.inr.inj q)
  rw [decide_eq_false h,decide_eq_false e]
theorem key_lr(a:Int)(b:Str):decide ((Sum.inl a:Key)=Sum.inr b)=false:=decide_eq_false (fun q=>nomatch q)
theorem key_rl(a:Str)(b:Int):decide ((Sum.inr a:Key)=Sum.inl b)=false:=decide_eq_false (fun q=>nomatch q)
def mixKind(prog:Program)(w:World):PySem.KeyKind prog w Key where
 is:=keyIs
 hash:=keyH w
 inj:=fun v a b ha hb=>by
  rcases y_q ha with ⟨i,t,rfl,rfl⟩ | ⟨x,t,rfl,rfl⟩
  ·rcases y_q hb with ⟨j,u,rfl,e⟩ | ⟨y,u,rfl,e⟩
   ·injection e with e1 _;rw [e1]
   ·exact nomatch e
  ·rcases y_q hb with ⟨j,u,rfl,e⟩ | ⟨y,u,rfl,e⟩
   ·exact nomatch e
   ·injection e with e1 _;rw [e1]
 byValue:=fun k v h=>by
  rcases y_q h with ⟨i,t,rfl,rfl⟩ | ⟨x,t,rfl,rfl⟩<;>rfl
 pyHash:=fun hv h=>by
  rcases y_q hv with ⟨i,t,rfl,rfl⟩ | ⟨x,t,rfl,rfl⟩
  ·exact wpAny_pyHash_int h
  ·exact wpAny_pyHash_str h
 eqBool:=fun hu hv h=>by
  rcases y_q hu with ⟨i,t,rfl,rfl⟩ | ⟨x,t,rfl,rfl⟩
  ·rcases y_q hv with ⟨j,u,rfl,rfl⟩ | ⟨y,u,rfl,rfl⟩
   ·rw [key_ll] at h;exact wpAny_eqBool_int h
   ·rw [key_lr] at h;exact SeqAt.EqAt.int_str i t y u _ _ _ _ h
  ·rcases y_q hv with ⟨j,u,rfl,rfl⟩ | ⟨y,u,rfl,rfl⟩
   ·rw [key_rl] at h;exact SeqAt.EqAt.str_int x t j u _ _ _ _ h
   ·rw [key_rr] at h;exact wpAny_eqBool_str h
 «strs» := fun k x t v h=>by
  rcases y_q h with ⟨i,u,rfl,e⟩ | ⟨y,u,rfl,e⟩
  ·exact nomatch e
  ·injection e with e1 _
   subst e1
   cases v<;>rfl
theorem mixKind_int(prog:Program)(w:World)(i:Int)(t:Tok):(mixKind prog w).is (.inl i) (.int i t)=true:=keyIs_int i t
theorem mixKind_str(prog:Program)(w:World)(x:Str)(t:Tok):(mixKind prog w).is (.inr x) (.str x t)=true:=keyIs_str x t
inductive V where
 | non | bl (b:Bool) | int (i:Int) | str (x:Str) | byt (b:Array UInt8) | flt (b:UInt64) | ref (a:Addr) | ty (n:String)
 deriving DecidableEq
def RelV:V->Value->Prop
 | .non,u=>u=Value.none
 | .bl b,u=>u=Value.bool b
 | .int i,u=>∃ t,u=Value.int i t
 | .str x,u=>∃ t,u=Value.str x t
 | .byt b,u=>∃ t,u=Value.bytes b t
 | .flt b,u=>∃ t,u=Value.float b t
 | .ref a,u=>u=Value.ref a
 | .ty n,u=>u=Value.type n
abbrev Vals:List V->List Value->Prop:=Paired RelV
theorem Vals.length{xs:List V}{us:List Value}(r:Vals xs us):xs.length=us.length:=Paired.length r
theorem Vals.get:∀ {xs:List V} {us:List Value} {i:Nat} {x:V},Vals xs us->xs[i]? = some x->∃ u,us[i]? = some u/\RelV x u
 | _,_,_,_,.nil,e=>by simp at e
 | _,_,0,_,.cons r _,e=>by simp at e;subst e;exact ⟨_,rfl,r⟩
 | _,_,i+1,x,.cons _ t,e=>by
  obtain ⟨u,h1,h2⟩:=Vals.get (i:=i) (x:=x) t (by simpa using e)
  exact ⟨u,by simpa using h1,h2⟩
theorem Vals.set{x:V}{u:Value}(r:RelV x u):∀ {xs:List V} {us:List Value} (i:Nat),Vals xs us->Vals (xs.set i x) (us.set i u)
 | _,_,_,.nil=>.nil
 | _,_,0,.cons _ t=>.cons r t
 | _,_,i+1,.cons q t=>.cons q (Vals.set r i t)
theorem Vals.append:∀ {xs ys:List V} {us ws:List Value},Vals xs us->Vals ys ws->Vals (xs++ys) (us++ws)
 | _,_,_,_,.nil,s=>s
 | _,_,_,_,.cons r t,s=>.cons r (Vals.append t s)
theorem Vals.take:∀ {xs:List V} {us:List Value} (n:Nat),Vals xs us->Vals (xs.take n) (us.take n)
 | _,_,0,_=>.nil
 | _,_,_+1,.nil=>.nil
 | _,_,n+1,.cons r t=>.cons r (Vals.take n t)
theorem Vals.drop:∀ {xs:List V} {us:List Value} (n:Nat),Vals xs us->Vals (xs.drop n) (us.drop n)
 | _,_,0,r=>r
 | _,_,_+1,.nil=>.nil
 | _,_,n+1,.cons _ t=>Vals.drop n t
def RelO:Option V->Option Value->Prop
 | some v,some u=>RelV v u
 | none,none=>True
 | _,_=>False
def KV{κ:Type}:List (κ×V)->List (κ×Value)->Prop:=Paired fun (p:κ×V) (q:κ×Value)=>p.1=q.1/\RelV p.2 q.2
def kV:Key->V
 | .inl i=>.int i
 | .inr x=>.str x
inductive HO where
 | lst (xs:List V)
 | tup (xs:List V)
 | dK (kvs:List (Key×V)) | dT (kvs:List (List Key×V))
 | set (S:Int->Bool) (n:Nat)
 | ins (C dx:Addr) (fs:List (Str×V))
 | own (x:Addr)
 | xd (fs:List (Str×V))
 | met (f x:Addr)
 | rng (lo hi:Int)
 | frz (o:Obj) (u:HO)
 | tbl (pos:Pos) (qual:Str)
 | ext (φ:Heap->Prop)
abbrev Hp:=Addr->Option HO
def upd(H:Hp)(a:Addr)(o:HO):Hp:=fun b=>if b=a then some o else H b
theorem z_b{H:Hp}{a:Addr}{o:HO}:upd H a o a=some o:=by unfold upd;rw [if_pos rfl]
theorem z_j{H:Hp}{a b:Addr}{o:HO}(h:b≠a):upd H a o b=H b:=by unfold upd;rw [if_neg h]
theorem upd_upd{H:Hp}{a:Addr}{o u:HO}:upd (upd H a o) a u=upd H a u:=by
 funext b;unfold upd;split<;>rfl
theorem ne_of{H:Hp}{a b:Addr}{o u:HO}(h:H a=some o)(h':H b=some u)(d:o≠u):a≠b:=by
 intro e;subst e;rw [h] at h';exact d (Option.some.inj h')
theorem z_g{H:Hp}{a b:Addr}{o:HO}(h:H a=some o)(h':H b=none):a≠b:=by
 intro e;subst e;rw [h] at h';cases h'
section
variable (P:Program) (w:World)
def ObjOk(H:Hp)(h:Heap)(a:Addr):HO->Prop
 | .lst xs=>xs.length<=sizeLine/\∃ (its:List Value) (n:Nat),Vals xs its/\h.get? a=some { cls:=.type "list",data:=.seq its.toArray n }
 | .tup xs=>xs.length<=sizeLine/\∃ its:List Value,Vals xs its/\IsTup h a its.toArray
 | .dK kvs=>kvs.length<=sizeLine/\(a == sysModules)=false/\∃ vs,KV kvs vs/\h.DictOf (mixKind P w) a vs
 | .dT kvs=>kvs.length<=sizeLine/\(a == sysModules)=false/\∃ xs:List (List Key×Addr×Value),
   Paired (fun (p:List Key×V) (q:List Key×Addr×Value)=>p.1=q.1/\H q.2.1=some (.tup (p.1.map kV))/\RelV p.2 q.2.2) kvs xs /\
   ∃ o es ep,h.get? a=some o/\o.ExactDict/\o.data = .dict es ep/\es.toList=xs.map (entryOfKey (tupleKind (mixKind P w)))/\(xs.map (·.1)).Nodup
 | .set S n=>h.SetOf (intKind P w) a S n
 | .ins C dx fs=>H dx=some (.own a)/\fs.length<=1000/\dx≠a/\h.get? a=some (PySem.W.instObj C dx) /\
   ∃ mA,h.Ns1 dx mA/\(∀ f,RelO (fs.lookup f) (mA f))/\PySem.Within mA (fs.map (·.1))
 | .own _=>∃ o,h.get? a=some o
 | .xd fs=>∃ mA,h.Ns1 a mA/\∀ f,RelO (fs.lookup f) (mA f)
 | .rng lo hi=>∃ t u v,h.get? a=some { cls:=.type "range",data:=.fields #[.int lo t,.int hi u,.int 1 v] }
 | .frz o u=>h.get? a=some o/\ObjOk H h a u
 | .tbl pos qual=>∃ ps:Array Value,h.get? a=some { cls:=.none,data:=.fields ps }/\TriplesOk ps.toList/\(codeAmong pos ps.toList=none\/∃ c oc vs tq,codeAmong pos ps.toList=some (.ref c)/\H c=some (.frz oc (.own a))/\oc.data = .fields vs/\vs[1]? = some (.str qual tq))
 | .met f x=>h.get? a=some (PySem.W.methodObj (.ref f) (.ref x))
 | .ext φ=>φ h/\(∃ o,h.get? a=some o)/\∀ h1 h2:Heap,φ h1->(∀ o,h1.get? a=some o->h2.get? a=some o)->φ h2
def HOk(H:Hp)(h:Heap):Prop:=∀ a o,H a=some o->ObjOk P w H h a o
end
section
variable {P:Program} {w:World} {H H':Hp} {h h':Heap} {a:Addr} {o:HO}
theorem ObjOk.lt(x:ObjOk P w H h a o):a<h.objs.size:=by
 cases o with
 | lst xs=>obtain ⟨_,_,_,_,e⟩:=x;exact Heap.lt_size e
 | tup xs=>obtain ⟨_,_,_,p⟩:=x;exact p.lt
 | dK kvs=>obtain ⟨_,_,_,_,o,_,_,e,_⟩:=x;exact Heap.lt_size e
 | dT kvs=>obtain ⟨_,_,_,_,o,_,_,e,_⟩:=x;exact Heap.lt_size e
 | set S n=>obtain ⟨o,_,_,_,e,_⟩:=x;exact Heap.lt_size e
 | ins C dx fs=>obtain ⟨_,_,_,e,_⟩:=x;exact Heap.lt_size e
 | own y=>obtain ⟨_,e⟩:=x;exact Heap.lt_size e
 | xd fs=>obtain ⟨_,⟨_,_,_,e,_⟩,_⟩:=x;exact Heap.lt_size e
 | rng lo hi=>obtain ⟨_,_,_,e⟩:=x;exact Heap.lt_size e
 | frz ob u=>obtain ⟨e,_⟩:=x;exact Heap.lt_size e
 | tbl pos qual=>obtain ⟨_,e,_⟩:=x;exact Heap.lt_size e
 | met f y=>exact Heap.lt_size (show h.get? a=some _ from x)
 | ext φ=>obtain ⟨_,⟨_,e⟩,_⟩:=x;exact Heap.lt_size e
theorem Paired.mapP{α β:Type}{F G:α->β->Prop}:∀ {l₁:List α} {l₂:List β},Paired F l₁ l₂->(∀ a b,F a b->G a b)->Paired G l₁ l₂
 | _,_,.nil,_=>.nil
 | _,_,.cons r t,f=>.cons (f _ _ r) (Paired.mapP t f)
theorem ObjOk.stay(x:ObjOk P w H h a o)(k:∀ b u,(b=a\/H b=some (.own a))->h.get? b=some u->h'.get? b=some u)
  (ho:∀ b,H b=some (.own a)->H' b=some (.own a)) (ht:∀ b xs,H b=some (.tup xs)->H' b=some (.tup xs)) (hz:∀ b o u,H b=some (.frz o u)->H' b=some (.frz o u)):ObjOk P w H' h' a o:=by
 induction o with
 | lst xs=>obtain ⟨z,its,n,r,e⟩:=x;exact ⟨z,its,n,r,k _ _ (.inl rfl) e⟩
 | tup xs=>obtain ⟨z,its,r,ob,e,c⟩:=x;exact ⟨z,its,r,ob,k _ _ (.inl rfl) e,c⟩
 | dK kvs=>obtain ⟨z,y,vs,r,ob,es,ep,e,c⟩:=x;exact ⟨z,y,vs,r,ob,es,ep,k _ _ (.inl rfl) e,c⟩
 | dT kvs =>
  obtain ⟨z,y,xs,r,ob,es,ep,e,c⟩:=x
  exact ⟨z,y,xs,Paired.mapP r fun p q z=>⟨z.1,ht _ _ z.2.1,z.2.2⟩,ob,es,ep,k _ _ (.inl rfl) e,c⟩
 | set S n=>obtain ⟨ob,es,ep,t,e,c⟩:=x;exact ⟨ob,es,ep,t,k _ _ (.inl rfl) e,c⟩
 | ins C dx fs =>
  obtain ⟨d,z,ne,e,mA,⟨od,es,ep,e2,c⟩,r⟩:=x
  exact ⟨ho _ d,z,ne,k _ _ (.inl rfl) e,mA,⟨od,es,ep,k _ _ (.inr d) e2,c⟩,r⟩
 | own y=>obtain ⟨ob,e⟩:=x;exact ⟨ob,k _ _ (.inl rfl) e⟩
 | xd fs=>obtain ⟨mA,⟨od,es,ep,e,c⟩,r⟩:=x;exact ⟨mA,⟨od,es,ep,k _ _ (.inl rfl) e,c⟩,r⟩
 | rng lo hi=>obtain ⟨t,u,v,e⟩:=x;exact ⟨t,u,v,k _ _ (.inl rfl) e⟩
 | frz ob u ih=>obtain ⟨e,q⟩:=x;exact ⟨k _ _ (.inl rfl) e,ih q⟩
 | tbl pos qual =>
  obtain ⟨ps,e,t,c⟩:=x
  refine ⟨ps,k a _ (.inl rfl) e,t,?_⟩
  rcases c with c | ⟨c,oc,vs,tq,c1,c2,c3⟩
  ·exact .inl c
  ·exact .inr ⟨c,oc,vs,tq,c1,hz _ _ _ c2,c3⟩
 | met f y =>
  have e:h.get? a=some (PySem.W.methodObj (.ref f) (.ref y)):=x
  show h'.get? a=some (PySem.W.methodObj (.ref f) (.ref y))
  exact k a _ (.inl rfl) e
 | ext φ=>obtain ⟨p,⟨o,e⟩,st⟩:=x;exact ⟨st _ _ p fun o q=>k _ _ (.inl rfl) q,⟨o,k _ _ (.inl rfl) e⟩,st⟩
theorem HOk.lt(x:HOk P w H h)(e:H a=some o):a<h.objs.size:=(x a o e).lt
theorem HOk.fresh(x:HOk P w H h)(e:h.objs.size<=a):H a=none:=by
 cases q:H a with
 | none=>rfl
 | some u=>exact absurd (Nat.lt_of_lt_of_le (x.lt q) e) (Nat.lt_irrefl _)
theorem HOk.kept(x:HOk P w H h)(k:∀ b u,h.get? b=some u->h'.get? b=some u):HOk P w H h':=fun a o e =>
 (x a o e).stay (fun b u _ q=>k b u q) (fun _ q=>q) (fun _ _ q=>q) fun _ _ _ q=>q
theorem HOk.laid(x:HOk P w H h)(k:∀ b u,h.get? b=some u->h'.get? b=some u)(hp:h.objs.size<=a)(new:ObjOk P w (upd H a o) h' a o):HOk P w (upd H a o) h':=fun b u e=>by
 have hn:=x.fresh hp
 by_cases hb:b=a
 ·subst hb;rw [z_b] at e;cases e;exact new
 ·rw [z_j hb] at e
  exact (x b u e).stay (fun c v _ q=>k c v q) (fun c q=>by rw [z_j (z_g q hn)];exact q) (fun c xs q=>by rw [z_j (z_g q hn)];exact q) fun c ob xs q=>by rw [z_j (z_g q hn)];exact q
end
def Rd(H:Hp)(a:Addr)(u:HO):Prop:=H a=some u\/∃ o,H a=some (.frz o u)
theorem Rd.ok{P:Program}{w:World}{H:Hp}{h:Heap}{a:Addr}{u:HO}(r:Rd H a u)(x:HOk P w H h):ObjOk P w H h a u:=by
 rcases r with r | ⟨o,r⟩
 ·exact x a u r
 ·obtain ⟨_,q⟩:=x a _ r
  exact q
def Mut:Option HO->Prop
 | some (.lst _)=>True
 | some (.dK _)=>True
 | some (.dT _)=>True
 | some (.set _ _)=>True
 | some (.ins _ _ _)=>True
 | some (.ext _)=>True
 | _=>False
section
variable {P:Program} {w:World} {H:Hp} {h h':Heap} {x e:Addr} {o':HO}
theorem HOk.write(ok:HOk P w H h)(mu:Mut (H x))(he:e=x\/H e=some (.own x))(k:∀ b u,b≠e->h.get? b=some u->h'.get? b=some u)(heo:∃ u,h'.get? e=some u)
  (new:ObjOk P w (upd H x o') h' x o'):HOk P w (upd H x o') h':=fun b u q=>by
 have nown:∀ c y,H c=some (.own y)->c≠x:=fun c y r z=>by subst z;rw [r] at mu;exact mu
 have ntup:∀ c xs,H c=some (.tup xs)->c≠x:=fun c xs r z=>by subst z;rw [r] at mu;exact mu
 by_cases hb:b=x
 ·subst hb;rw [z_b] at q;cases q;exact new
 ·rw [z_j hb] at q
  by_cases hbe:b=e
  ·have q':H b=some (.own x):=by
    rcases he with z | z
    ·exact absurd (hbe.trans z) hb
    ·rw [hbe];exact z
   rw [q] at q';cases q'
   obtain ⟨v,hv⟩:=heo
   exact ⟨v,by rw [hbe];exact hv⟩
  ·refine (ok b u q).stay (fun c v hc r=>k c v ?_ r) (fun c r=>by rw [z_j (nown c b r)];exact r) (fun c xs r=>by rw [z_j (ntup c xs r)];exact r) fun c ob xs r=>by rw [z_j (fun z=>by subst z;rw [r] at mu;exact mu)];exact r
   rcases hc with rfl | hc
   ·exact hbe
   ·rintro rfl
    rcases he with z | z
    ·exact nown c b hc z
    ·rw [hc] at z;cases z;exact hb rfl
end
structure Un(fs ex:List Addr)(H H':Hp)(h h':Heap):Prop where
 keep:∀ b o,h.get? b=some o->H b=none->b∉fs->b∉ex->h'.get? b=some o
 slot:∀ b o,h.get? b=some o->H b=none->b∈fs->b∉ex->∃ sl,h'.get? b=some { o with slots:=sl }
 free:∀ b o,h.get? b=some o->H b=none->b∉ex->H' b=none
 there:∀ b o,h.get? b=some o->b∉ex->∃ o',h'.get? b=some o'
 tups:∀ b xs,H b=some (.tup xs)->H' b=some (.tup xs)
 frzs:∀ b o u,H b=some (.frz o u)->H' b=some (.frz o u)
 tbls:∀ b p q,H b=some (.tbl p q)->H' b=some (.tbl p q)
section
variable {fs fs' ex ex':List Addr} {H H1 H2:Hp} {h h1 h2 h':Heap} {a x e:Addr} {o:HO}
theorem Un.any(u:Un fs ex H H1 h h1){b:Addr}{ob:Obj}(q:h.get? b=some ob)(n:H b=none)(hx:b∉ex):∃ sl,h1.get? b=some { ob with slots:=sl }:=by
 by_cases hb:b∈fs
 ·exact u.slot b ob q n hb hx
 ·exact ⟨ob.slots,u.keep b ob q n hb hx⟩
theorem Un.kept(k:∀ b u,h.get? b=some u->h'.get? b=some u):Un fs ex H H h h' :=
 ⟨fun b ob q _ _ _=>k b ob q,fun b ob q _ _ _=>⟨ob.slots,k b ob q⟩,fun _ _ _ n _=>n,fun b ob q _=>⟨ob,k b ob q⟩,fun _ _ q=>q,fun _ _ _ q=>q,fun _ _ _ q=>q⟩
theorem Un.refl:Un fs ex H H h h:=Un.kept fun _ _ q=>q
theorem Un.laid(k:∀ b u,h.get? b=some u->h'.get? b=some u)(hp:h.objs.size<=a)(hn:H a=none):Un fs ex H (upd H a o) h h' where
 keep:=fun b u q _ _ _=>k b u q
 slot:=fun b u q _ _ _=>⟨u.slots,k b u q⟩
 free:=fun b u q n _=>by rw [z_j (Nat.ne_of_lt (Nat.lt_of_lt_of_le (Heap.lt_size q) hp))];exact n
 there:=fun b u q _=>⟨u,k b u q⟩
 tups:=fun b xs q=>by rw [z_j (z_g q hn)];exact q
 frzs:=fun b u xs q=>by rw [z_j (z_g q hn)];exact q
 tbls:=fun b p q z=>by rw [z_j (z_g z hn)];exact z
theorem Un.write(mu:Mut (H x))(he:e=x\/H e=some (.own x))(k:∀ b u,b≠e->h.get? b=some u->h'.get? b=some u)(heo:∃ u,h'.get? e=some u):Un fs ex H (upd H x o) h h':=by
 have hx:∀ b,H b=none->b≠x:=fun b n z=>by subst z;rw [n] at mu;exact mu
 have hb:∀ b,H b=none->b≠e:=fun b n z=>by
  subst z
  rcases he with r | r
  ·exact hx b n r
  ·rw [n] at r;cases r
 have hm:∀ b u,H b=some u->¬Mut (some u)->b≠x:=fun b u q nm z=>by subst z;rw [q] at mu;exact nm mu
 refine ⟨fun b u q n _ _=>k b u (hb b n) q,fun b u q n _ _=>⟨u.slots,k b u (hb b n) q⟩,fun b u q n _=>by rw [z_j (hx b n)];exact n,fun b u q _=>?_,
  fun b xs q=>by rw [z_j (hm b _ q fun z=>z)];exact q,fun b u xs q=>by rw [z_j (hm b _ q fun z=>z)];exact q,fun b p q z=>by rw [z_j (hm b _ z fun y=>y)];exact z⟩
 by_cases hbe:b=e
 ·subst hbe;exact heo
 ·exact ⟨u,k b u hbe q⟩
end
def trk(h:Heap)(H:Hp):List Addr:=(List.range h.objs.size).filter fun a=>(H a).isSome
def hidT(h:Heap)(H:Hp):Heap:=PySem.W.hideAll h (trk h H)
theorem hidT_size(h:Heap)(H:Hp):(hidT h H).objs.size=h.objs.size:=PySem.W.hideAll_size _ _
theorem hidT_get{h:Heap}{H:Hp}{b:Addr}{o:Obj}(e:h.get? b=some o)(n:H b=none):(hidT h H).get? b=some o :=
 PySem.W.hideAll_get _ e fun hm=>by
  have q:(H b).isSome=true:=(List.mem_filter.mp hm).2
  rw [n] at q;simp at q
theorem of_hidT{h:Heap}{H:Hp}{b:Addr}{o:Obj}(e:(hidT h H).get? b=some o):h.get? b=some o/\H b=none:=by
 have e':h.get? b=some o:=PySem.W.of_hideAll (trk h H) e
 refine ⟨e',?_⟩
 cases q:H b with
 | none=>rfl
 | some x =>
  have hm:b∈trk h H:=List.mem_filter.mpr ⟨List.mem_range.mpr (Heap.lt_size e'),by simp [q]⟩
  have z:(hidT h H).get? b=none:=PySem.W.hideAll_none (trk h H) hm
  rw [z] at e;cases e
open PySem PySem.Spec PyProof.Rows
structure Mod(K:PySem.W.Frag)(mg:Str->Option Value)(base:Heap):Prop where
 kin:K.In base
 glob:base.Ns mainGlobals mg
 blt:∃ mb,base.Ns builtinsNs mb/\∀ x:Str,x ≠ "__name__" -> mb x=bootBuiltins x
 nolimit:base.NoLimit
structure Cx where
 prog:Program
 w:World
 K:PySem.W.Frag
 mg:Str->Option Value
 base:Heap
 A:Around
 N:List Str
 s₀:Shared
 H₀:Hp
 env:Env
 outer:List Env
 stack:List Env
 ex:List Addr
 fn:Str->Bool
 calm:Bool
 pn:List (Addr×Obj)
 xe:Value->Shared->Prop
def frs(l:List Env):List Addr:=l.filterMap (·.frame)
abbrev Cx.fs(X:Cx):List Addr:=frs X.outer
def Vis(sc:Scope)(x:Str):Prop:=sc.names.lookup x=some .local\/sc.names.lookup x=some .cell\/sc.names.lookup x=some .free
def Loc(sc:Scope)(x:Str):Prop:=sc.names.lookup x=some .local\/sc.names.lookup x=some .cell
def Look(env:Env)(h:Heap)(m:Str->Option Value)(x:Str)(u:Value):Prop :=
 (env.kindOf x=some .local/\m x=some u)\/((env.kindOf x=some .cell\/env.kindOf x=some .free)/\∃ c,env.cells.lookup x=some c/\h.IsCell c (some u))
structure Cx.Ok(X:Cx):Prop where
 mod:Mod X.K X.mg X.base
 kind:X.env.scope.kind = .function
 glob:X.env.globals=mainGlobals
 blt:X.env.builtins=builtinsNs
 above:X.s₀.heap.objs.size<=X.env.locals
 inj:∀ x y c,X.env.cells.lookup x=some c->X.env.cells.lookup y=some c->x=y
 has:∀ x,(X.env.kindOf x=some .cell\/X.env.kindOf x=some .free)->∃ c,X.env.cells.lookup x=some c
 cab:∀ x c,X.fn x=true->X.env.cells.lookup x=some c->X.s₀.heap.objs.size<=c
 hd:X.calm=true->X.A.handled=none
 frames:X.A.frames=some X.stack
 gd:X.A.guards=some []
 stk:X.stack=X.outer\/(X.stack=X.env::X.outer/\X.env.frame=some X.env.locals)
 exf:∀ b∈X.ex,b≠X.env.locals/\∀ x c,X.env.cells.lookup x=some c->c≠b
 bs:∀ b o,X.base.get? b=some o->X.s₀.heap.get? b=some o/\X.H₀ b=none
 bsz:X.base.objs.size<=X.s₀.heap.objs.size
 noex:∀ b o,X.base.get? b=some o->b∉X.ex
 exfs:∀ b∈X.ex,b∉X.fs
 funs:X.s₀.heap.FunFrames X.base X.outer
 frf:∀ b∈X.fs,X.H₀ b=none
structure Inv(X:Cx)(pins:List (Addr×Obj))(σ:List (Option V))(H:Hp)(s:Shared):Prop where
 ok:X.Ok
 os:s.os=X.s₀.os
 bare:AllBare s.gens
 base:Un X.fs X.ex X.H₀ H X.s₀.heap s.heap
 loc:∃ m,s.heap.Ns X.env.locals m/\∀ (i:Nat) (x:Str) (v:V),X.N[i]? = some x->σ[i]? = some (some v)->Vis X.env.scope x->∃ u,RelV v u/\Look X.env s.heap m x u
 cell:∀ x c,X.env.cells.lookup x=some c->∃ v,s.heap.IsCell c v
 free:H X.env.locals=none
 freeC:∀ x c,X.env.cells.lookup x=some c->H c=none
 pin:∀ p∈X.pn++pins,s.heap.get? p.1=some p.2/\H p.1=none/\p.1≠X.env.locals/\p.1∉X.fs/\∀ v,p.2.data ≠ .cell v
 hok:HOk X.prog X.w H s.heap
 len:σ.length=X.N.length
section
variable {X:Cx} {pins:List (Addr×Obj)} {σ:List (Option V)} {H H':Hp} {s:Shared} {h':Heap}
theorem Cx.Ok.nofr(ok:X.Ok){b:Addr}{o:Obj}(e:X.base.get? b=some o):b∉X.fs:=fun hb=>by
 have:=(ok.funs.mem hb).1
 rw [e] at this;cases this
theorem Inv.bs(I:Inv X pins σ H s):∀ b o,X.base.get? b=some o->s.heap.get? b=some o/\H b=none:=fun b o e =>
 ⟨I.base.keep b o (I.ok.bs b o e).1 (I.ok.bs b o e).2 (I.ok.nofr e) (I.ok.noex b o e),I.base.free b o (I.ok.bs b o e).1 (I.ok.bs b o e).2 (I.ok.noex b o e)⟩
theorem Inv.bk(I:Inv X pins σ H s):∀ b o,X.base.get? b=some o->s.heap.get? b=some o:=fun b o e=>(I.bs b o e).1
theorem Inv.mod(I:Inv X pins σ H s):Mod X.K X.mg X.base:=I.ok.mod
theorem Inv.kIn(I:Inv X pins σ H s):X.K.In s.heap:=I.ok.mod.kin.keeps I.bk
theorem Inv.lt(I:Inv X pins σ H s):X.env.locals<s.heap.objs.size:=let ⟨_,hn,_⟩:=I.loc;hn.lt
theorem Inv.sz(I:Inv X pins σ H s):X.s₀.heap.objs.size<=s.heap.objs.size:=Nat.le_trans I.ok.above (Nat.le_of_lt I.lt)
theorem Inv.nofs(I:Inv X pins σ H s){a:Addr}(h:s.heap.objs.size<=a):a∉X.fs:=fun hb=>by
 obtain ⟨_,o,ho,_⟩:=I.ok.funs.mem hb
 exact absurd (Nat.lt_of_lt_of_le (Heap.lt_size ho) (Nat.le_trans I.sz h)) (Nat.lt_irrefl _)
theorem Inv.cne(I:Inv X pins σ H s):∀ x c,X.env.cells.lookup x=some c->c≠X.env.locals:=fun x c e z=>by
 obtain ⟨v,o,ho,hd⟩:=I.cell x c e
 obtain ⟨m,⟨o',es,ep,ho',hd',_⟩,_⟩:=I.loc
 rw [z,ho'] at ho;cases ho;rw [hd'] at hd;cases hd
theorem Inv.funs(I:Inv X pins σ H s):s.heap.FunFrames X.base X.outer:=by
 have all:∀ (l:List Env),(∀ b∈frs l,b∈X.fs)->X.s₀.heap.FunFrames X.base l->s.heap.FunFrames X.base l:=by
  intro l
  induction l with
  | nil=>intro _ _;trivial
  | cons env r ih =>
   intro hs hl
   obtain ⟨hk,⟨L,o,hf,hn,ho,hd⟩,hr⟩:=hl
   have hL:L∈X.fs:=hs L (by unfold frs;rw [List.filterMap_cons,hf];exact List.mem_cons_self)
   obtain ⟨sl,e⟩:=I.base.slot L o ho (I.ok.frf L hL) hL fun z=>I.ok.exfs L z hL
   exact ⟨hk,⟨L,_,hf,hn,e,hd⟩,ih (fun b hb=>hs b (by unfold frs;rw [List.filterMap_cons,hf];exact List.mem_cons_of_mem _ hb)) hr⟩
 exact all X.outer (fun _ hb=>hb) I.ok.funs
theorem Inv.stack(I:Inv X pins σ H s):s.heap.FunFrames X.base X.stack:=by
 rcases I.ok.stk with e | ⟨e,hf⟩
 ·rw [e];exact I.funs
 ·rw [e]
  obtain ⟨m,hn,_⟩:=I.loc
  refine .cons (by rw [I.ok.kind];decide) hf hn ?_ I.funs
  exact Heap.get?_none_of_le (Nat.le_trans I.ok.bsz I.ok.above)
theorem Inv.stkSub(I:Inv X pins σ H s):∀ b∈frs X.stack,b∈X.env.locals::X.fs:=fun b hb=>by
 rcases I.ok.stk with e | ⟨e,hf⟩
 ·rw [e] at hb;exact List.mem_cons_of_mem _ hb
 ·rw [e] at hb
  unfold frs at hb
  rw [List.filterMap_cons,hf] at hb
  exact hb
theorem Inv.stkFree(I:Inv X pins σ H s):∀ b∈frs X.stack,H b=none:=fun b hb=>by
 rcases List.mem_cons.mp (I.stkSub b hb) with e | hb
 ·rw [e];exact I.free
 ·obtain ⟨_,o,ho,_⟩:=I.ok.funs.mem hb
  exact I.base.free b o ho (I.ok.frf b hb) fun z=>I.ok.exfs b z hb
theorem Inv.step{g':Array GenState}{t':Nat}{d':Drawn}{ch:List Addr}(I:Inv X pins σ H s)
  (hch:∀ b∈ch,(b∈X.ex\/X.s₀.heap.objs.size<=b)/\b≠X.env.locals/\(∀ x c,X.env.cells.lookup x=some c->c≠b)/\∀ p∈X.pn++pins,p.1≠b)
  (keep:∀ b o,b≠X.env.locals->b∉X.fs->b∉ch->s.heap.get? b=some o->H b=none->h'.get? b=some o)
  (slot:∀ b o,b≠X.env.locals->b∈X.fs->b∉ch->s.heap.get? b=some o->H b=none->∃ sl,h'.get? b=some { o with slots:=sl }) (free:∀ b o,b∉ch->s.heap.get? b=some o->H b=none->H' b=none)
  (there:∀ b o,b∉ch->s.heap.get? b=some o->∃ o',h'.get? b=some o')
  (tups:∀ b xs,H b=some (.tup xs)->H' b=some (.tup xs)) (frzs:∀ b o u,H b=some (.frz o u)->H' b=some (.frz o u)) (tbls:∀ b p q,H b=some (.tbl p q)->H' b=some (.tbl p q))
  (ns:∀ m,s.heap.Ns X.env.locals m->h'.Ns X.env.locals m) (hok:HOk X.prog X.w H' h') (hg:AllBare g') :
  Inv X pins σ H' { s with heap:=h',gens:=g',drawn:=d',toks:=t' }:=by
 have neL:∀ b o,X.s₀.heap.get? b=some o->b≠X.env.locals:=fun b o e=>Nat.ne_of_lt (Nat.lt_of_lt_of_le (Heap.lt_size e) I.ok.above)
 have neC:∀ b o,X.s₀.heap.get? b=some o->b∉X.ex->b∉ch:=fun b o e hx hb=>by
  rcases (hch b hb).1 with z | z
  ·exact hx z
  ·exact absurd (Nat.lt_of_lt_of_le (Heap.lt_size e) z) (Nat.lt_irrefl _)
 have cellK:∀ x c,X.env.cells.lookup x=some c->∀ v,s.heap.IsCell c v->h'.IsCell c v:=fun x c e v ⟨o,ho,hd⟩=>by
  have nch:c∉ch:=fun z=>(hch c z).2.2.1 x c e rfl
  by_cases hc:c∈X.fs
  ·obtain ⟨sl,q⟩:=slot c o (I.cne x c e) hc nch ho (I.freeC x c e)
   exact ⟨_,q,hd⟩
  ·exact ⟨o,keep c o (I.cne x c e) hc nch ho (I.freeC x c e),hd⟩
 refine ⟨I.ok,I.os,hg,⟨fun b o e n hb hx=>?_,fun b o e n hb hx=>?_,fun b o e n hx=>?_,fun b o e hx=>?_,fun b xs e=>tups b xs (I.base.tups b xs e),fun b o xs e=>frzs b o xs (I.base.frzs b o xs e),fun b p q e=>tbls b p q (I.base.tbls b p q e)⟩,?_,fun x c e=>?_,?_,fun x c e=>?_,fun p hp=>?_,hok,I.len⟩
 ·exact keep b o (neL b o e) hb (neC b o e hx) (I.base.keep b o e n hb hx) (I.base.free b o e n hx)
 ·obtain ⟨sl,e1⟩:=I.base.slot b o e n hb hx
  obtain ⟨sl',e2⟩:=slot b _ (neL b o e) hb (neC b o e hx) e1 (I.base.free b o e n hx)
  exact ⟨sl',e2⟩
 ·obtain ⟨o',e1⟩:=I.base.there b o e hx
  exact free b o' (neC b o e hx) e1 (I.base.free b o e n hx)
 ·obtain ⟨o',e1⟩:=I.base.there b o e hx
  exact there b o' (neC b o e hx) e1
 ·obtain ⟨m,hn,hl⟩:=I.loc
  refine ⟨m,ns m hn,fun i x v e1 e2 e3=>?_⟩
  obtain ⟨u,r,l⟩:=hl i x v e1 e2 e3
  refine ⟨u,r,?_⟩
  rcases l with l | ⟨k,c,e,z⟩
  ·exact .inl l
  ·exact .inr ⟨k,c,e,cellK x c e _ z⟩
 ·obtain ⟨v,z⟩:=I.cell x c e
  exact ⟨v,cellK x c e v z⟩
 ·obtain ⟨m,⟨o,_,_,ho,_⟩,_⟩:=I.loc
  exact free _ o (fun z=>(hch _ z).2.1 rfl) ho I.free
 ·obtain ⟨v,o,ho,hd⟩:=I.cell x c e
  exact free c o (fun z=>(hch c z).2.2.1 x c e rfl) ho (I.freeC x c e)
 ·obtain ⟨e,n,ne,nf,d⟩:=I.pin p hp
  have nch:p.1∉ch:=fun z=>(hch p.1 z).2.2.2 p hp rfl
  exact ⟨keep p.1 p.2 ne nf nch e n,free p.1 p.2 nch e n,ne,nf,d⟩
theorem Inv.un{t':Nat}(I:Inv X pins σ H s)(u:Un X.fs [] H H' s.heap h')(hok:HOk X.prog X.w H' h'):Inv X pins σ H' { s with heap:=h',toks:=t' }:=by
 obtain ⟨m,⟨o,es,ep,ho,r⟩,_⟩:=id I.loc
 obtain ⟨sl,hL⟩:=u.any ho I.free (by simp)
 exact I.step (g':=s.gens) (d':=s.drawn) (ch:=[]) (fun _ z=>nomatch z) (fun b o _ hb _ e n=>u.keep b o e n hb (by simp)) (fun b o _ hb _ e n=>u.slot b o e n hb (by simp)) (fun b o _ e n=>u.free b o e n (by simp)) (fun b o _ e=>u.there b o e (by simp)) u.tups u.frzs u.tbls (fun m' hm=>by
  obtain ⟨o',es',ep',ho',r'⟩:=hm
  rw [ho] at ho';cases ho'
  exact ⟨_,es',ep',hL,r'⟩) hok I.bare
theorem Inv.call{g':Array GenState}{t':Nat}{d':Drawn}{ch:List Addr}(I:Inv X pins σ H s)(u:Un (frs X.stack) ch H H' s.heap h')(hok:HOk X.prog X.w H' h')(hg:AllBare g')
  (hch:∀ b∈ch,(b∈X.ex\/X.s₀.heap.objs.size<=b)/\b≠X.env.locals/\(∀ x c,X.env.cells.lookup x=some c->c≠b)/\∀ p∈X.pn++pins,p.1≠b) :
  Inv X pins σ H' { s with heap:=h',gens:=g',drawn:=d',toks:=t' }:=by
 obtain ⟨m,⟨o,es,ep,ho,r⟩,_⟩:=id I.loc
 obtain ⟨sl,hL⟩:=u.any ho I.free fun z=>(hch _ z).2.1 rfl
 exact I.step (ch:=ch) hch (fun b o hL hb hc e n=>u.keep b o e n (fun z=>(List.mem_cons.mp (I.stkSub b z)).elim hL hb) hc) (fun b o _ _ hc e n=>u.any e n hc) (fun b o hc e n=>u.free b o e n hc) (fun b o hc e=>u.there b o e hc) u.tups u.frzs u.tbls (fun m' hm=>by
  obtain ⟨o',es',ep',ho',r'⟩:=hm
  rw [ho] at ho';cases ho'
  exact ⟨_,es',ep',hL,r'⟩) hok hg
theorem Inv.turned{t':Nat}{it:Addr}(I:Inv X pins σ H s)(k:∀ b o,b≠it->s.heap.get? b=some o->h'.get? b=some o)(hn:H it=none)(hL:it≠X.env.locals)
  (h1:it∈X.ex\/X.s₀.heap.objs.size<=it) (h2:∀ x c,X.env.cells.lookup x=some c->c≠it) (h3:∀ p∈X.pn++pins,p.1≠it):Inv X pins σ H { s with heap:=h',toks:=t' }:=by
 have nit:∀ b u,H b=some u->b≠it:=fun b u e z=>by rw [z,hn] at e;cases e
 refine I.step (g':=s.gens) (d':=s.drawn) (ch:=[it]) (fun b hb=>?_) (fun b o _ _ hc e _=>k b o (fun z=>hc (by simp [z])) e) (fun b o _ _ hc e _=>⟨o.slots,k b o (fun z=>hc (by simp [z])) e⟩) (fun _ _ _ _ n=>n)
  (fun b o hc e=>⟨o,k b o (fun z=>hc (by simp [z])) e⟩) (fun _ _ e=>e) (fun _ _ _ e=>e) (fun _ _ _ e=>e) (fun m hm=>?_) (fun b u e=>?_) I.bare
 ·have e:b=it:=by simpa using hb
  subst e
  exact ⟨h1,hL,h2,h3⟩
 ·obtain ⟨o,es,ep,ho,r⟩:=hm
  exact ⟨o,es,ep,k _ o (Ne.symm hL) ho,r⟩
 ·refine (I.hok b u e).stay (fun c v hc q=>k c v ?_ q) (fun _ q=>q) (fun _ _ q=>q) fun _ _ _ q=>q
  rcases hc with z | z
  ·rw [z];exact nit b u e
  ·exact nit c _ z
theorem Inv.tok(I:Inv X pins σ H s)(t:Nat):Inv X pins σ H { s with toks:=t }:=I.un (h':=s.heap) (t':=t) Un.refl I.hok
theorem Inv.kept{t':Nat}(I:Inv X pins σ H s)(k:∀ b u,s.heap.get? b=some u->h'.get? b=some u):Inv X pins σ H { s with heap:=h',toks:=t' }:=I.un (Un.kept k) (I.hok.kept k)
theorem Inv.laid{a:Addr}{o:HO}{t':Nat}(I:Inv X pins σ H s)(k:∀ b u,s.heap.get? b=some u->h'.get? b=some u)(hp:s.heap.objs.size<=a)(new:ObjOk X.prog X.w (upd H a o) h' a o) :
  Inv X pins σ (upd H a o) { s with heap:=h',toks:=t' }:=I.un (Un.laid k hp (I.hok.fresh hp)) (I.hok.laid k hp new)
theorem Inv.write{x e:Addr}{o:HO}{t':Nat}(I:Inv X pins σ H s)(mu:Mut (H x))(he:e=x\/H e=some (.own x))(k:∀ b u,b≠e->s.heap.get? b=some u->h'.get? b=some u)(heo:∃ u,h'.get? e=some u)
  (new:ObjOk X.prog X.w (upd H x o) h' x o):Inv X pins σ (upd H x o) { s with heap:=h',toks:=t' }:=I.un (Un.write mu he k heo) (I.hok.write mu he k heo new)
theorem Inv.pins_of{pins':List (Addr×Obj)}(I:Inv X pins σ H s)(h:∀ p∈pins',s.heap.get? p.1=some p.2/\H p.1=none/\p.1≠X.env.locals/\p.1∉X.fs/\∀ v,p.2.data ≠ .cell v):Inv X pins' σ H s :=
 ⟨I.ok,I.os,I.bare,I.base,I.loc,I.cell,I.free,I.freeC,fun p hp=>(List.mem_append.mp hp).elim (fun z=>I.pin p (List.mem_append_left _ z)) (h p),I.hok,I.len⟩
theorem nodup_ix{N:List Str}(hN:N.Nodup){i j:Nat}{x:Str}(a:N[i]? = some x)(b:N[j]? = some x):i=j:=by
 obtain ⟨h1,e1⟩:=List.getElem?_eq_some_iff.mp a
 obtain ⟨h2,e2⟩:=List.getElem?_eq_some_iff.mp b
 exact (List.getElem_inj hN).mp (e1.trans e2.symm)
theorem store_ok2{M:Model}{A:Around}{E:Value->Shared->Prop}{i:Nat}{x:Str}{v:V}{u:Value}{Q:Unit->Shared->Prop}(I:Inv X pins σ H s)(hN:X.N.Nodup)(hi:X.N[i]? = some x)(hx:Loc X.env.scope x)(r:RelV v u)
  (h:∀ s',Inv X pins (σ.set i (some v)) H s'->(∃ a,Heap.SameBut a s.heap s'.heap/\(a=X.env.locals\/X.env.cells.lookup x=some a))->Q () s') (hf:X.fn x=true\/X.env.scope.names.lookup x=some .local:=by first | exact .inl rfl | exact .inr rfl | assumption):wpAny M A (storeName X.env x u) Q E s:=by
 obtain ⟨m,hn,hl⟩:=id I.loc
 have hcls:(X.env.scope.kind == .class || (X.env.scope.kind == .module&&X.env.locals != X.env.globals))=false:=by rw [I.ok.kind];rfl
 have hiσ:i<σ.length:=by rw [I.len];exact (List.getElem?_eq_some_iff.mp hi).1
 have cne:=I.cne
 have tracked:∀ {a:Addr} {h':Heap},(∃ o,s.heap.get? a=some o/\H a=none)->Heap.SameBut a s.heap h'->HOk X.prog X.w H h':=fun {a h'} ha hs b ob e=>by
  obtain ⟨_,_,hfree⟩:=ha
  refine (I.hok b ob e).stay (fun c w' hc q=>(hs.2 c ?_).trans q) (fun _ q=>q) (fun _ _ q=>q) fun _ _ _ q=>q
  rintro rfl
  rcases hc with rfl | hc
  ·rw [hfree] at e;cases e
  ·rw [hfree] at hc;cases hc
 rcases hx with hk | hk
 ·refine wpAny_storeName_local hk hn (fun h' hn' hs=>?_) hcls
  obtain ⟨oL,_,_,hoL,_⟩:=id hn
  refine h _ ⟨I.ok,I.os,I.bare,⟨fun b o e n hb hx=>?_,fun b o e n hb hx=>?_,I.base.free,fun b o e hx=>?_,I.base.tups,I.base.frzs,I.base.tbls⟩,⟨_,hn',fun j y v' e1 e2 e3=>?_⟩,fun y c e=>?_,I.free,I.freeC,fun p hp=>?_,tracked ⟨oL,hoL,I.free⟩ hs,by simpa using I.len⟩ ⟨_,hs,.inl rfl⟩
  ·exact (hs.2 b (Nat.ne_of_lt (Nat.lt_of_lt_of_le (Heap.lt_size e) I.ok.above))).trans (I.base.keep b o e n hb hx)
  ·obtain ⟨sl,e1⟩:=I.base.slot b o e n hb hx
   exact ⟨sl,(hs.2 b (Nat.ne_of_lt (Nat.lt_of_lt_of_le (Heap.lt_size e) I.ok.above))).trans e1⟩
  ·obtain ⟨o',e1⟩:=I.base.there b o e hx
   exact ⟨o',(hs.2 b (Nat.ne_of_lt (Nat.lt_of_lt_of_le (Heap.lt_size e) I.ok.above))).trans e1⟩
  ·by_cases hj:j=i
   ·subst hj
    rw [hi] at e1;cases e1
    rw [List.getElem?_set_self hiσ] at e2
    cases e2
    exact ⟨u,r,.inl ⟨hk,by simp⟩⟩
   ·rw [List.getElem?_set_ne (Ne.symm hj)] at e2
    obtain ⟨u',r',q⟩:=hl j y v' e1 e2 e3
    refine ⟨u',r',?_⟩
    rcases q with ⟨k,e⟩ | ⟨k,c,e,z⟩
    ·refine .inl ⟨k,?_⟩
     have:y≠x:=fun e=>hj (nodup_ix hN e1 (e▸hi))
     simp [this,e]
    ·exact .inr ⟨k,c,e,z.sameBut hs (cne y c e)⟩
  ·obtain ⟨w',z⟩:=I.cell y c e
   exact ⟨w',z.sameBut hs (cne y c e)⟩
  ·obtain ⟨e,n,ne,nf,d⟩:=I.pin p hp
   exact ⟨(hs.2 p.1 ne).trans e,n,ne,nf,d⟩
 ·have hfn:X.fn x=true:=by
   rcases hf with z | z
   ·exact z
   ·rw [z] at hk;cases hk
  obtain ⟨c,hc⟩:=I.ok.has x (.inl hk)
  obtain ⟨w',z⟩:=I.cell x c hc
  refine wpAny_storeName_cell I.ok.kind hk hc z (fun h' hc' hs=>?_)
  obtain ⟨oc,hoc,hocd⟩:=id z
  refine h { s with heap:=h' } ⟨I.ok,I.os,I.bare,⟨fun b o e n hb hx=>?_,fun b o e n hb hx=>?_,I.base.free,fun b o e hx=>?_,I.base.tups,I.base.frzs,I.base.tbls⟩,⟨m,hn.sameBut hs (Ne.symm (cne x c hc)),fun j y v' e1 e2 e3=>?_⟩,fun y c' e=>?_,I.free,I.freeC,fun p hp=>?_,tracked ⟨oc,hoc,I.freeC x c hc⟩ hs,by simpa using I.len⟩ ⟨c,hs,.inr hc⟩
  ·exact (hs.2 b (Nat.ne_of_lt (Nat.lt_of_lt_of_le (Heap.lt_size e) (I.ok.cab x c hfn hc)))).trans (I.base.keep b o e n hb hx)
  ·obtain ⟨sl,e1⟩:=I.base.slot b o e n hb hx
   exact ⟨sl,(hs.2 b (Nat.ne_of_lt (Nat.lt_of_lt_of_le (Heap.lt_size e) (I.ok.cab x c hfn hc)))).trans e1⟩
  ·obtain ⟨o',e1⟩:=I.base.there b o e hx
   exact ⟨o',(hs.2 b (Nat.ne_of_lt (Nat.lt_of_lt_of_le (Heap.lt_size e) (I.ok.cab x c hfn hc)))).trans e1⟩
  ·by_cases hj:j=i
   ·subst hj
    rw [hi] at e1;cases e1
    rw [List.getElem?_set_self hiσ] at e2
    cases e2
    exact ⟨u,r,.inr ⟨.inl hk,c,hc,hc'⟩⟩
   ·rw [List.getElem?_set_ne (Ne.symm hj)] at e2
    obtain ⟨u',r',q⟩:=hl j y v' e1 e2 e3
    refine ⟨u',r',?_⟩
    rcases q with q | ⟨k,c',e,z'⟩
    ·exact .inl q
    ·refine .inr ⟨k,c',e,z'.sameBut hs ?_⟩
     rintro rfl
     exact hj (nodup_ix hN e1 (I.ok.inj _ _ _ e hc▸hi))
  ·by_cases hcc:c'=c
   ·subst hcc;exact ⟨_,hc'⟩
   ·obtain ⟨w2,z2⟩:=I.cell y c' e
    exact ⟨w2,z2.sameBut hs hcc⟩
  ·obtain ⟨e,n,ne,nf,d⟩:=I.pin p hp
   refine ⟨(hs.2 p.1 ?_).trans e,n,ne,nf,d⟩
   intro q
   rw [q,hoc] at e
   have q':oc=p.2:=Option.some.inj e
   exact d w' (by rw [<-q'];exact hocd)
theorem store_ok{M:Model}{A:Around}{E:Value->Shared->Prop}{i:Nat}{x:Str}{v:V}{u:Value}{Q:Unit->Shared->Prop}(I:Inv X pins σ H s)(hN:X.N.Nodup)(hi:X.N[i]? = some x)(hx:Loc X.env.scope x)(r:RelV v u)
  (h:∀ s',Inv X pins (σ.set i (some v)) H s'->Q () s') (hf:X.fn x=true\/X.env.scope.names.lookup x=some .local:=by first | exact .inl rfl | exact .inr rfl | assumption):wpAny M A (storeName X.env x u) Q E s :=
 store_ok2 I hN hi hx r (fun s' I' _=>h s' I') hf
theorem Inv.call'{s':Shared}{ch:List Addr}(I:Inv X pins σ H s)(ho:s'.os=s.os)(u:Un (frs X.stack) ch H H' s.heap s'.heap)(hok:HOk X.prog X.w H' s'.heap)(hg:AllBare s'.gens)
  (hch:∀ b∈ch,(b∈X.ex\/X.s₀.heap.objs.size<=b)/\b≠X.env.locals/\(∀ x c,X.env.cells.lookup x=some c->c≠b)/\∀ p∈X.pn++pins,p.1≠b):Inv X pins σ H' s':=by
 obtain ⟨h',g',d',t',o'⟩:=s'
 have e:o'=s.os:=ho
 subst e
 exact I.call (g':=g') (t':=t') (d':=d') u hok hg hch
end
abbrev XK:=Value->Option Addr->Hp->Prop
abbrev St:=List (Option V)
abbrev VK:=V->Hp->Prop
abbrev TE:=St->Hp->VK->Prop
abbrev TT:=St->Hp->(Bool->Hp->Prop)->Prop
abbrev TA:=St->Hp->(List V->Hp->Prop)->Prop
structure Ends where
 nx:St->Hp->Prop
 rt:VK
 bk:St->Hp->Prop:=fun _ _=>False
 ct:St->Hp->Prop:=fun _ _=>False
abbrev TS:=Ends->St->Hp->Prop
def EP(X:Cx)(pins:List (Addr×Obj))(σ:St)(Q:VK)(u:Value)(s':Shared):Prop:=∃ v H',Inv X pins σ H' s'/\RelV v u/\Q v H'
def TP(X:Cx)(pins:List (Addr×Obj))(σ:St)(Q:Bool->Hp->Prop)(b:Bool)(s':Shared):Prop:=∃ H',Inv X pins σ H' s'/\Q b H'
def AP(X:Cx)(pins:List (Addr×Obj))(σ:St)(Q:List V->Hp->Prop)(us:List Value)(s':Shared):Prop:=∃ vs H',Inv X pins σ H' s'/\Vals vs us/\Q vs H'
def SP(X:Cx)(pins:List (Addr×Obj))(D:Ends)(f:Flow)(s':Shared):Prop :=
 match f with
 | .next=>∃ σ' H',Inv X pins σ' H' s'/\D.nx σ' H'
 | .brk=>∃ σ' H',Inv X pins σ' H' s'/\D.bk σ' H'
 | .cont=>∃ σ' H',Inv X pins σ' H' s'/\D.ct σ' H'
 | .ret u=>∃ v σ' H',Inv X pins σ' H' s'/\RelV v u/\D.rt v H'
def PE(X:Cx)(e:Expr)(t:TE):Prop :=
 ∀ (pins:List (Addr×Obj)) (s:Shared) (σ:St) (H:Hp) (Q:VK),Inv X pins σ H s->t σ H Q->wpAny (model X.prog X.w) X.A (eval e X.env) (EP X pins σ Q) X.xe s
def PT(X:Cx)(e:Expr)(t:TT):Prop :=
 ∀ (pins:List (Addr×Obj)) (s:Shared) (σ:St) (H:Hp) (Q:Bool->Hp->Prop),Inv X pins σ H s->t σ H Q->wpAny (model X.prog X.w) X.A (isTrue e X.env (eval e X.env)) (TP X pins σ Q) X.xe s
def PW(X:Cx)(e:Expr)(t:TT):Prop :=
 ∀ (whole:Sem Value) (pins:List (Addr×Obj)) (s:Shared) (σ:St) (H:Hp) (Q:Bool->Hp->Prop),Inv X pins σ H s->t σ H Q->wpAny (model X.prog X.w) X.A (isTrue e X.env whole) (TP X pins σ Q) X.xe s
theorem PW.pt{X:Cx}{e:Expr}{t:TT}(h:PW X e t):PT X e t:=h _
def PA(X:Cx)(es:List Expr)(t:TA):Prop :=
 ∀ (pos:Pos) (pins:List (Addr×Obj)) (s:Shared) (σ:St) (H:Hp) (Q:List V->Hp->Prop),Inv X pins σ H s->t σ H Q->wpAny (model X.prog X.w) X.A (spliced (backTo pos (starEach es X.env))) (AP X pins σ Q) X.xe s
def PS(X:Cx)(st:Stmt)(t:TS):Prop :=
 ∀ (pins:List (Addr×Obj)) (s:Shared) (σ:St) (H:Hp) (D:Ends),Inv X pins σ H s->t D σ H->wpAny (model X.prog X.w) X.A (exec st X.env) (SP X pins D) X.xe s
def PSs(X:Cx)(st:List Stmt)(t:TS):Prop :=
 ∀ (pins:List (Addr×Obj)) (s:Shared) (σ:St) (H:Hp) (D:Ends),Inv X pins σ H s->t D σ H->wpAny (model X.prog X.w) X.A (execs st X.env) (SP X pins D) X.xe s
theorem thn{α:Type}{t:Sem α}{Q Q':α->Shared->Prop}{M:Model}{A:Around}{E:Value->Shared->Prop}{s:Shared}(h:wpAny M A t Q E s)(hQ:∀ a s,Q a s->Q' a s):wpAny M A t Q' E s:=wpAny_mono h hQ fun _ _ x=>x
open PySem PySem.Spec PyProof.Rows
section
variable {X:Cx}
def tVar(i:Nat):TE:=fun σ H Q=>∃ v,σ[i]? = some (some v)/\Q v H
def tC(v:V):TE:=fun _ H Q=>Q v H
theorem pe_var{i:Nat}{x:Str}{pos:Pos}(hN:X.N[i]? = some x)(hv:Vis X.env.scope x)(hd:(x == ("__debug__" : Str))=false:=by decide)(hcd:(x == ("__classdict__" : Str))=false:=by decide):PE X (.Name x pos) (tVar i):=by
 intro pins s σ H Q I h
 obtain ⟨v,e,h⟩:=h
 obtain ⟨m,hn,hl⟩:=I.loc
 obtain ⟨u,r,l⟩:=hl i x v hN e hv
 have fin:EP X pins σ Q u s:=⟨v,H,I,r,h⟩
 rcases l with ⟨hk,hm⟩ | ⟨hk,c,hc,hcell⟩
 ·exact wpAny_Name (wpAny_loadName_local I.ok.kind hk hn hm fin) hd
 ·rcases hk with hk | hk
  ·exact wpAny_Name (wpAny_loadName_cell I.ok.kind hk hc hcell fin) hd
  ·exact wpAny_Name (wpAny_loadName_free I.ok.kind hk hc hcell fin hcd) hd
theorem z_e{i j pos}:PE X (.Constant (.int i) j pos) (tC (.int i)):=fun _ _ _ H _ I h=>wpAny_Constant_int ⟨.int i,H,I.tok _,⟨_,rfl⟩,h⟩
theorem pe_bl{b j pos}:PE X (.Constant (.bool b) j pos) (tC (.bl b)):=fun _ _ _ H _ I h=>Constant_bool ⟨.bl b,H,I,rfl,h⟩
theorem pe_non{j pos}:PE X (.Constant .none j pos) (tC .non):=fun _ _ _ H _ I h=>Constant_none ⟨.non,H,I,rfl,h⟩
theorem z_t{x j pos}:PE X (.Constant (.str x) j pos) (tC (.str x)):=fun _ _ _ H _ I h=>Calls.Constant_str ⟨.str x,H,I.tok _,⟨_,rfl⟩,h⟩
def Gl(X:Cx)(x:Str):Prop:=X.env.kindOf x=some .globalImplicit
theorem ld_glob{E:Value->Shared->Prop}{pins:List (Addr×Obj)}{s:Shared}{σ:St}{H:Hp}{x:Str}{u:Value}{pos:Pos}{Q:Value->Shared->Prop}(I:Inv X pins σ H s)(hg:Gl X x)(hm:X.mg x=some u)(h:Q u s)
  (hd:(x == ("__debug__" : Str))=false:=by decide):wpAny (model X.prog X.w) X.A (eval (.Name x pos) X.env) Q E s :=
 Calls.Name_function_global I.ok.kind hg (Calls.loadGlobal_global (by rw [I.ok.glob];exact I.mod.glob.keeps I.bk) hm h) hd
theorem ld_blt{E:Value->Shared->Prop}{pins:List (Addr×Obj)}{s:Shared}{σ:St}{H:Hp}{x:Str}{u:Value}{pos:Pos}{Q:Value->Shared->Prop}(I:Inv X pins σ H s)(hg:Gl X x)(hm:X.mg x=none)(hv:bootBuiltins x=some u)(h:Q u s)
  (hn:x ≠ "__name__" := by decide) (hd:(x == ("__debug__" : Str))=false:=by decide):wpAny (model X.prog X.w) X.A (eval (.Name x pos) X.env) Q E s:=by
 obtain ⟨mb,h1,h2⟩:=I.mod.blt
 exact Calls.Name_function_global I.ok.kind hg (Calls.loadGlobal_builtin (by rw [I.ok.glob];exact I.mod.glob.keeps I.bk) hm (by rw [I.ok.blt];exact h1.keeps I.bk) ((h2 x hn).trans hv) h) hd
theorem pe_glob{x:Str}{v:V}{u:Value}{pos:Pos}(hg:Gl X x)(hm:X.mg x=some u)(r:RelV v u)(hd:(x == ("__debug__" : Str))=false:=by decide):PE X (.Name x pos) (tC v) :=
 fun _ _ _ H _ I h=>ld_glob I hg hm ⟨v,H,I,r,h⟩ hd
theorem x_t{x:Str}{v:V}{u:Value}{pos:Pos}(hg:Gl X x)(hm:X.mg x=none)(hv:bootBuiltins x=some u)(r:RelV v u)(hn:x ≠ "__name__" := by decide)(hd:(x == ("__debug__" : Str))=false:=by decide):PE X (.Name x pos) (tC v) :=
 fun _ _ _ H _ I h=>ld_blt I hg hm hv ⟨v,H,I,r,h⟩ hn hd
variable {a b:Expr} {ta tb:TE} {pos:Pos}
def PC(X:Cx)(op:CmpOp)(a b:Expr)(t:TE):Prop :=
 ∀ (pins:List (Addr×Obj)) (s:Shared) (σ:St) (H:Hp) (Q:VK),Inv X pins σ H s->t σ H Q ->
  wpAny (model X.prog X.w) X.A (eval a X.env) (fun v s₁=>wpAny (model X.prog X.w) X.A (eval b X.env) (fun u s₂=>wpAny (model X.prog X.w) X.A (compareOp op v u) (EP X pins σ Q) X.xe s₂) X.xe s₁) X.xe s
theorem nobehind(b:Expr){op:CmpOp}(h:op ≠ .In)(h2:op ≠ .NotIn):behindInMarks op b=false:=by
 have e1:(op == CmpOp.In)=false:=by cases op<;>first | rfl | exact absurd rfl h
 have e2:(op == CmpOp.NotIn)=false:=by cases op<;>first | rfl | exact absurd rfl h2
 cases b<;>simp [behindInMarks,e1,e2]
def tB(t:TE):TT:=fun σ H Q=>t σ H fun x H1=>∃ c,x = .bl c/\Q c H1
theorem pe_cmp{op:CmpOp}{t:TE}(h:PC X op a b t)(h1:behindInMarks op b=false:=by first | exact nobehind _ (by decide) (by decide) | rfl):PE X (.Compare a [op] [b] pos) t:=fun pins s σ H Q I hw=>wpAny_Compare1 (h pins s σ H Q I hw) h1
theorem pt_cmp{op:CmpOp}{t:TE}(h:PC X op a b t)(h1:behindInMarks op b=false:=by first | exact nobehind _ (by decide) (by decide) | rfl):PT X (.Compare a [op] [b] pos) (tB t):=by
 intro pins s σ H Q I hw
 refine wpAny_isTrue_Compare1 (thn (h pins s σ H _ I hw) fun v s1 h1=>thn h1 fun u s2 h2=>thn h2 fun c s3 ⟨x,H1,I1,r1,q1⟩=>?_) h1
 obtain ⟨d,rfl,q⟩:=q1
 cases r1
 exact wpAny_truthy_bool ⟨H1,I1,q⟩
variable {tA tB':TT} {rest:List Expr}
def tAnd(t u:TT):TT:=fun σ H Q=>t σ H fun c H1=>if c=true then u σ H1 Q else Q false H1
def tOr(t u:TT):TT:=fun σ H Q=>t σ H fun c H1=>if c=true then Q true H1 else u σ H1 Q
def tNot(t:TT):TT:=fun σ H Q=>t σ H fun c H1=>Q (!c) H1
theorem pw_and1(ha:PT X a tA):PW X (.BoolOp .And [a] pos) tA:=by
 intro wh pins s σ H Q I h
 refine isTrue_and (thn (ha pins s σ H Q I h) fun c s1 e=>?_)
 cases c with
 | true=>exact isTrue_and_nil e
 | false=>exact e
theorem pw_or1(ha:PT X a tA):PW X (.BoolOp .Or [a] pos) tA:=by
 intro wh pins s σ H Q I h
 refine isTrue_or (thn (ha pins s σ H Q I h) fun c s1 e=>?_)
 cases c with
 | false=>exact isTrue_or_nil e
 | true=>exact e
theorem pw_and(ha:PT X a tA)(hb:PW X (.BoolOp .And (b::rest) pos) tB'):PW X (.BoolOp .And (a::b::rest) pos) (tAnd tA tB'):=by
 intro wh pins s σ H Q I h
 refine isTrue_and (thn (ha pins s σ H _ I h) fun c s1 ⟨H1,I1,q1⟩=>?_)
 cases c with
 | true=>exact hb wh pins s1 σ H1 Q I1 q1
 | false=>exact ⟨H1,I1,q1⟩
theorem pw_or(ha:PT X a tA)(hb:PW X (.BoolOp .Or (b::rest) pos) tB'):PW X (.BoolOp .Or (a::b::rest) pos) (tOr tA tB'):=by
 intro wh pins s σ H Q I h
 refine isTrue_or (thn (ha pins s σ H _ I h) fun c s1 ⟨H1,I1,q1⟩=>?_)
 cases c with
 | true=>exact ⟨H1,I1,q1⟩
 | false=>exact hb wh pins s1 σ H1 Q I1 q1
theorem pt_not(ha:PT X a tA):PT X (.UnaryOp .Not a pos) (tNot tA):=by
 intro pins s σ H Q I h
 exact isTrue_not (ha pins s σ H (fun c H1=>Q (!c) H1) I h)
def tAndV(ta tb:TE):TE:=fun σ H Q=>ta σ H fun x H1=>∃ c,x = .bl c/\if c=true then tb σ H1 Q else Q (.bl false) H1
def tOrV(ta tb:TE):TE:=fun σ H Q=>ta σ H fun x H1=>∃ c,x = .bl c/\if c=true then Q (.bl true) H1 else tb σ H1 Q
def tNotV(ta:TE):TE:=fun σ H Q=>ta σ H fun x H1=>∃ c,x = .bl c/\Q (.bl (!c)) H1
theorem pe_one{op}{t:TE}(h:PE X a t):PE X (.BoolOp op [a] pos) t:=fun pins s σ H Q I hw=>BoolOp_one (h pins s σ H Q I hw)
theorem pe_and(ha:PE X a ta)(hb:PE X (.BoolOp .And (b::rest) pos) tb):PE X (.BoolOp .And (a::b::rest) pos) (tAndV ta tb):=by
 intro pins s σ H Q I h
 refine BoolOp_and (thn (ha pins s σ H _ I h) fun v s1 ⟨x,H1,I1,r1,q1⟩=>?_)
 obtain ⟨c,rfl,q1⟩:=q1
 cases r1
 refine wpAny_truthy_bool ?_
 cases c with
 | true=>exact hb pins s1 σ H1 Q I1 q1
 | false=>exact ⟨.bl false,H1,I1,rfl,q1⟩
theorem pe_or(ha:PE X a ta)(hb:PE X (.BoolOp .Or (b::rest) pos) tb):PE X (.BoolOp .Or (a::b::rest) pos) (tOrV ta tb):=by
 intro pins s σ H Q I h
 refine BoolOp_or (thn (ha pins s σ H _ I h) fun v s1 ⟨x,H1,I1,r1,q1⟩=>?_)
 obtain ⟨c,rfl,q1⟩:=q1
 cases r1
 refine wpAny_truthy_bool ?_
 cases c with
 | false=>exact hb pins s1 σ H1 Q I1 q1
 | true=>exact ⟨.bl true,H1,I1,rfl,q1⟩
theorem pe_not(ha:PE X a ta):PE X (.UnaryOp .Not a pos) (tNotV ta):=by
 intro pins s σ H Q I h
 refine UnaryOp_ (thn (ha pins s σ H _ I h) fun v s1 ⟨x,H1,I1,r1,q1⟩=>?_)
 obtain ⟨c,rfl,q1⟩:=q1
 cases r1
 exact not_of (wpAny_truthy_bool ⟨.bl (!c),H1,I1,rfl,q1⟩)
end
open PySem PySem.Spec PyProof.Rows
def SqL(K:PySem.W.Frag)(H:Hp)(a:Addr)(xs:List V):Prop :=
 Rd H a (.lst xs) \/
  ∃ (o:Obj) (its:Array Value) (n:Nat),K.lookup a=some o/\o.cls = .type "list" /\ o.dict=none/\o.data = .seq its n/\its.size<=sizeLine/\Vals xs its.toList
def SqT(K:PySem.W.Frag)(H:Hp)(a:Addr)(xs:List V):Prop :=
 Rd H a (.tup xs) \/
  ∃ (o:Obj) (its:Array Value) (n:Nat),K.lookup a=some o/\o.cls = .type "tuple" /\ o.data = .seq its n/\its.size<=sizeLine/\Vals xs its.toList
def absV:Value->Option V
 | .none=>some .non
 | .bool b=>some (.bl b)
 | .int i _=>some (.int i)
 | .str x _=>some (.str x)
 | .bytes b _=>some (.byt b)
 | .float b _=>some (.flt b)
 | .ref a=>some (.ref a)
 | .type n=>some (.ty n)
 | _=>none
theorem RelV.abs{x:V}{u:Value}(r:RelV x u):absV u=some x:=by
 cases x with
 | non=>cases r;rfl
 | bl _=>cases r;rfl
 | int _=>obtain ⟨t,rfl⟩:=r;rfl
 | str _=>obtain ⟨t,rfl⟩:=r;rfl
 | byt _=>obtain ⟨t,rfl⟩:=r;rfl
 | flt _=>obtain ⟨t,rfl⟩:=r;rfl
 | ref _=>cases r;rfl
 | ty _=>cases r;rfl
theorem RelV.inj{x y:V}{u:Value}(r:RelV x u)(q:RelV y u):x=y:=Option.some.inj (r.abs.symm.trans q.abs)
theorem Vals.inj:∀ {xs ys:List V} {us:List Value},Vals xs us->Vals ys us->xs=ys
 | _,_,_,.nil,.nil=>rfl
 | _,_,_,.cons r t,.cons r' t'=>by rw [r.inj r',Vals.inj t t']
section
variable {X:Cx} {pins:List (Addr×Obj)} {σ:St} {H:Hp} {s:Shared} {a:Addr} {xs ys:List V}
theorem SqL.of{K:PySem.W.Frag}(h:H a=some (.lst xs)):SqL K H a xs:=.inl (.inl h)
theorem SqT.of{K:PySem.W.Frag}(h:H a=some (.tup xs)):SqT K H a xs:=.inl (.inl h)
theorem Inv.list(I:Inv X pins σ H s)(h:SqL X.K H a xs):∃ its:List Value,Vals xs its/\PlainL s.heap a its.toArray/\xs.length<=sizeLine:=by
 rcases h with h | ⟨o,its,n,hk,hc,hd,hs,hz,r⟩
 ·obtain ⟨z,its,n,r,e⟩:=h.ok I.hok
  exact ⟨its,r,⟨_,n,e,rfl,rfl,rfl⟩,z⟩
 ·refine ⟨its.toList,r,⟨o,n,I.kIn a o hk,hc,hd,by simpa using hs⟩,?_⟩
  have e:=r.length
  simp only [Array.length_toList] at e
  lia
theorem Inv.tuple(I:Inv X pins σ H s)(h:SqT X.K H a xs):∃ its:List Value,Vals xs its/\IsTup s.heap a its.toArray/\xs.length<=sizeLine:=by
 rcases h with h | ⟨o,its,n,hk,hc,hs,hz,r⟩
 ·obtain ⟨z,its,r,p⟩:=h.ok I.hok
  exact ⟨its,r,p,z⟩
 ·refine ⟨its.toList,r,⟨o,I.kIn a o hk,hc,n,by simpa using hs⟩,?_⟩
  have e:=r.length
  simp only [Array.length_toList] at e
  lia
theorem Inv.list_inj(I:Inv X pins σ H s)(h:SqL X.K H a xs)(h':SqL X.K H a ys):xs=ys:=by
 obtain ⟨its,r,⟨o,n,e,_,_,d⟩,_⟩:=I.list h
 obtain ⟨its',r',⟨o',n',e',_,_,d'⟩,_⟩:=I.list h'
 rw [e] at e';cases e'
 rw [d] at d'
 injection d' with d1 _
 have:its=its':=by simpa using congrArg Array.toList d1
 subst this
 exact r.inj r'
theorem Inv.tuple_inj(I:Inv X pins σ H s)(h:SqT X.K H a xs)(h':SqT X.K H a ys):xs=ys:=by
 obtain ⟨its,r,⟨o,e,_,n,d⟩,_⟩:=I.tuple h
 obtain ⟨its',r',⟨o',e',_,n',d'⟩,_⟩:=I.tuple h'
 rw [e] at e';cases e'
 rw [d] at d'
 injection d' with d1 _
 have:its=its':=by simpa using congrArg Array.toList d1
 subst this
 exact r.inj r'
end
abbrev Cx.wish(X:Cx)(E:Value->Shared->Prop):Cx:={ X with xe:=E }
abbrev Cx.nox(X:Cx):Cx:=X.wish fun _ _=>False
theorem Cx.Ok.wish{X:Cx}(ok:X.Ok)(E:Value->Shared->Prop):(X.wish E).Ok :=
 ⟨ok.mod,ok.kind,ok.glob,ok.blt,ok.above,ok.inj,ok.has,ok.cab,ok.hd,ok.frames,ok.gd,ok.stk,ok.exf,ok.bs,ok.bsz,ok.noex,ok.exfs,ok.funs,ok.frf⟩
theorem Cx.Ok.unwish{X:Cx}{E:Value->Shared->Prop}(ok:(X.wish E).Ok):X.Ok :=
 ⟨ok.mod,ok.kind,ok.glob,ok.blt,ok.above,ok.inj,ok.has,ok.cab,ok.hd,ok.frames,ok.gd,ok.stk,ok.exf,ok.bs,ok.bsz,ok.noex,ok.exfs,ok.funs,ok.frf⟩
section
variable {X:Cx} {pins:List (Addr×Obj)} {σ:St} {H:Hp} {s:Shared} {E:Value->Shared->Prop}
theorem Inv.wish(I:Inv X pins σ H s)(E:Value->Shared->Prop):Inv (X.wish E) pins σ H s:=⟨I.ok.wish E,I.os,I.bare,I.base,I.loc,I.cell,I.free,I.freeC,I.pin,I.hok,I.len⟩
theorem Inv.unwish(I:Inv (X.wish E) pins σ H s):Inv X pins σ H s:=⟨I.ok.unwish,I.os,I.bare,I.base,I.loc,I.cell,I.free,I.freeC,I.pin,I.hok,I.len⟩
theorem SP.unwish{D:Ends}{f:Flow}{s':Shared}(h:SP (X.wish E) pins D f s'):SP X pins D f s':=by
 cases f with
 | next=>obtain ⟨σ',H',I,q⟩:=h;exact ⟨σ',H',I.unwish,q⟩
 | brk=>obtain ⟨σ',H',I,q⟩:=h;exact ⟨σ',H',I.unwish,q⟩
 | cont=>obtain ⟨σ',H',I,q⟩:=h;exact ⟨σ',H',I.unwish,q⟩
 | ret u=>obtain ⟨v,σ',H',I,r,q⟩:=h;exact ⟨v,σ',H',I.unwish,r,q⟩
theorem PSs.nox{st:List Stmt}{t:TS}(h:PSs X.nox st t):PSs X st t:=fun pins s σ H D I hw =>
 wpAny_mono (h pins s σ H D (I.wish _) hw) (fun _ _ q=>q.unwish) fun _ _ z=>False.elim z
end
section
variable {X:Cx} {st:Stmt} {rest:List Stmt} {t u:TS} {e:Expr} {te:TE} {pos:Pos}
def tNext:TS:=fun D σ H=>D.nx σ H
def tSeq(t u:TS):TS:=fun D σ H=>t { D with nx:=u D } σ H
theorem y_a:PSs X [] tNext:=fun _ _ σ H _ I h=>wpAny_execs_nil ⟨σ,H,I,h⟩
theorem z_f(h1:PS X st t)(h2:PSs X rest u):PSs X (st::rest) (tSeq t u):=by
 intro pins s σ H D I h
 refine wpAny_execs_cons (thn (h1 pins s σ H { D with nx:=u D } I h) fun f s1 q=>?_)
 cases f with
 | next =>
  obtain ⟨σ',H',I',q⟩:=q
  exact h2 pins s1 σ' H' D I' q
 | ret v=>exact q
 | brk=>exact q
 | cont=>exact q
theorem z_i(h1:PS X st t):PSs X [st] t:=by
 intro pins s σ H D I h
 refine wpAny_execs_cons (thn (h1 pins s σ H D I h) fun f s1 q=>?_)
 cases f with
 | next=>exact wpAny_execs_nil q
 | ret v=>exact q
 | brk=>exact q
 | cont=>exact q
def tCont:TS:=fun D σ H=>D.ct σ H
theorem ps_continue:PS X (.Continue pos) tCont:=fun _ _ σ H _ I h=>wpAny_Continue ⟨σ,H,I,h⟩
theorem Inv.quiet{pins:List (Addr×Obj)}{σ:St}{H:Hp}{s:Shared}(I:Inv X pins σ H s):interactive X.env=false:=by simp [interactive,I.ok.kind]
def tDrop(te:TE):TS:=fun D σ H=>te σ H fun _ H1=>D.nx σ H1
theorem x_b(he:PE X e te)(hs:swapsWith e none pos.line X.env=pure false:=by rfl):PS X (.Expr e pos) (tDrop te):=by
 intro pins s σ H D I h
 exact wpAny_Expr_any (thn (he pins s σ H _ I h) fun v s1 ⟨x,H1,I1,r1,q1⟩=>⟨σ,H1,I1,q1⟩) I.quiet hs
def tRet(te:TE):TS:=fun D σ H=>te σ H D.rt
theorem z_z(he:PE X e te):PS X (.Return (some e) pos) (tRet te):=by
 intro pins s σ H D I h
 exact wpAny_Return_some (thn (he pins s σ H _ I h) fun v s1 ⟨x,H1,I1,r1,q1⟩=>⟨x,σ,H1,I1,r1,q1⟩)
def tIfS(c:TT)(t u:TS):TS:=fun D σ H=>c σ H fun b H1=>if b=true then t D σ H1 else u D σ H1
theorem x_a{c:Expr}{a b:List Stmt}{tc:TT}(hc:PT X c tc)(ha:PSs X a t)(hb:PSs X b u):PS X (.If c a b pos) (tIfS tc t u):=by
 intro pins s σ H D I h
 refine wpAny_If (thn (hc pins s σ H _ I h) fun d s1 ⟨H1,I1,q1⟩=>?_)
 cases d with
 | true=>exact ha pins s1 σ H1 D I1 q1
 | false=>exact hb pins s1 σ H1 D I1 q1
end
abbrev TG:=V->St->Hp->(St->Hp->Prop)->Prop
abbrev TGs:=List V->St->Hp->(St->Hp->Prop)->Prop
def PG(X:Cx)(target:Expr)(t:TG):Prop :=
 ∀ (pins:List (Addr×Obj)) (s:Shared) (σ:St) (H:Hp) (v:V) (u:Value) (Q:St->Hp->Prop),Inv X pins σ H s->RelV v u->t v σ H Q ->
  wpAny (model X.prog X.w) X.A (assign target X.env u) (fun _ s'=>∃ σ' H',Inv X pins σ' H' s'/\Q σ' H') X.xe s
def PGs(X:Cx)(ts:List Expr)(t:TGs):Prop :=
 ∀ (pins:List (Addr×Obj)) (s:Shared) (σ:St) (H:Hp) (vs:List V) (us:List Value) (Q:St->Hp->Prop),Inv X pins σ H s->Vals vs us->t vs σ H Q ->
  wpAny (model X.prog X.w) X.A (assignInOrder ((assignEach ts X.env).map (·.2)) us) (fun _ s'=>∃ σ' H',Inv X pins σ' H' s'/\Q σ' H') X.xe s
abbrev TSet:=V->V->V->Hp->(Hp->Prop)->Prop
def PSet(X:Cx)(t:TSet):Prop :=
 ∀ (pins:List (Addr×Obj)) (s:Shared) (σ:St) (H:Hp) (o i v:V) (ov iv u:Value) (Q:Hp->Prop),Inv X pins σ H s->RelV o ov->RelV i iv->RelV v u->t o i v H Q ->
  wpAny (model X.prog X.w) X.A (setItem ov iv u) (fun _ s'=>∃ H',Inv X pins σ H' s'/\Q H') X.xe s
section
variable {X:Cx} {pos:Pos}
def gName(i:Nat):TG:=fun v σ H Q=>Q (σ.set i (some v)) H
theorem z_v{i:Nat}{x:Str}(hN:X.N.Nodup)(hi:X.N[i]? = some x)(hx:Loc X.env.scope x)(hf:X.fn x=true\/X.env.scope.names.lookup x=some .local:=by first | exact .inl rfl | exact .inr rfl | assumption):PG X (.Name x pos) (gName i):=by
 intro pins s σ H v u Q I r h
 exact wpAny_assign_Name (store_ok I hN hi hx r (fun s' I'=>⟨_,H,I',h⟩) hf)
def gNil:TGs:=fun vs σ H Q=>vs=[]/\Q σ H
def gCons(t:TG)(u:TGs):TGs:=fun vs σ H Q=>∃ v r,vs=v::r/\t v σ H fun σ' H'=>u r σ' H' Q
theorem pgs_nil:PGs X [] gNil:=by
 intro pins s σ H vs us Q I r h
 obtain ⟨e,h⟩:=h
 subst e
 cases r
 exact assignInOrder_nil ⟨σ,H,I,h⟩
theorem y_e{e:Expr}{es:List Expr}{t:TG}{u:TGs}(h1:PG X e t)(h2:PGs X es u)
  (hs:(assignEach (e::es) X.env).map (·.2)=assign e X.env::(assignEach es X.env).map (·.2):=by rfl):PGs X (e::es) (gCons t u):=by
 intro pins s σ H vs us Q I r h
 obtain ⟨v,vr,e1,h⟩:=h
 subst e1
 cases r with
 | cons r rr =>
  rw [hs]
  refine assignInOrder_cons (thn (h1 pins s σ H _ _ _ I r h) fun _ s1 ⟨σ1,H1,I1,q1⟩=>?_)
  exact h2 pins s1 σ1 H1 _ _ Q I1 rr q1
def gTup(K:PySem.W.Frag)(n:Nat)(t:TGs):TG:=fun v σ H Q=>∃ a xs,v = .ref a/\SqT K H a xs/\xs.length=n/\t xs σ H Q
theorem pg_tup{es:List Expr}{k:Nat}{t:TGs}{n:Nat}(hc:X.calm=true)(h:PGs X es t)
  (hn:(assignEach es X.env).length=n:=by rfl) (hst:(assignEach es X.env).findIdx? (·.1)=none:=by rfl):PG X (.Tuple es k pos) (gTup X.K n t):=by
 intro pins s σ H v u Q I r hw
 obtain ⟨a,xs,e1,hq,hl,hw⟩:=hw
 subst e1
 cases r
 obtain ⟨its,rv,ht,hz⟩:=I.tuple hq
 refine assign_Tuple_tuple (I.ok.hd hc) ht (by simp [hn,<-hl,rv.length]) hst fun h' hx=>?_
 have I1:Inv X pins σ H { s with heap:=h' }:=I.kept (t':=s.toks) fun b o e=>hx b o (Nat.ne_of_lt (Heap.lt_size e)) e
 exact h pins _ σ H xs _ Q I1 (by simpa using rv) hw
def gSub(to ti:TE)(t:TSet):TG:=fun v σ H Q=>to σ H fun o H1=>ti σ H1 fun i H2=>t o i v H2 fun H3=>Q σ H3
theorem pg_sub{o i:Expr}{to ti:TE}{t:TSet}(ho:PE X o to)(hi:PE X i ti)(hs:PSet X t)
  (ha:∀ v,assign (.Subscript o i pos) X.env v=(do
   let ov <-holding [v] (eval o X.env)
   let iv <-holding [v,ov] (eval i X.env)
   standAt pos
   holding [v,ov,iv] (setItem ov iv v)
   release [v,ov,iv] []):=by intro _;rfl):PG X (.Subscript o i pos) (gSub to ti t):=by
 intro pins s σ H v u Q I r h
 rw [ha]
 refine wpAny_bind (wpAny_holding (thn (ho pins s σ H _ I h) fun ov s1 ⟨x,H1,I1,r1,q1⟩=>?_))
 refine wpAny_bind (wpAny_holding (thn (hi pins s1 σ H1 _ I1 q1) fun iv s2 ⟨y,H2,I2,r2,q2⟩=>?_))
 refine wpAny_bind (wpAny_standAt (wpAny_bind (wpAny_holding (thn (hs pins s2 σ H2 x y v ov iv u _ I2 r1 r2 r q2) fun _ s3 ⟨H3,I3,q3⟩=>?_))))
 exact wpAny_release ⟨σ,H3,I3,q3⟩
def tAsg(te:TE)(g:TG):TS:=fun D σ H=>te σ H fun x H1=>g x σ H1 D.nx
theorem ps_asg{tg e:Expr}{te:TE}{g:TG}(he:PE X e te)(hg:PG X tg g)(hs:swapsWithSole [tg] e pos.line X.env=pure false:=by rfl)(hw:swappedStores [tg] e X.env=pure none:=by rfl)
  (h1:(assignEach [tg] X.env).map (·.2)=[assign tg X.env]:=by rfl):PS X (.Assign [tg] e pos) (tAsg te g):=by
 intro pins s σ H D I h
 refine wpAny_Assign_stores (thn (he pins s σ H _ I h) fun v s1 ⟨x,H1,I1,r1,q1⟩=>?_) hs hw
 rw [h1]
 exact thn (hg pins s1 σ H1 x v _ I1 r1 q1) fun _ s2 q=>q
theorem z_r{i:Nat}{x:Str}{e:Expr}{te:TE}{pos':Pos}(hN:X.N.Nodup)(hi:X.N[i]? = some x)(hx:Loc X.env.scope x)(he:PE X e te)(hs:swapsWith e (some (.Name x pos')) pos.line X.env=pure false:=by rfl)(hf:X.fn x=true\/X.env.scope.names.lookup x=some .local:=by first | exact .inl rfl | exact .inr rfl | assumption) :
  PS X (.Assign [.Name x pos'] e pos) (tAsg te (gName i)):=by
 intro pins s σ H D I h
 refine wpAny_Assign_Name (thn (he pins s σ H _ I h) fun v s1 ⟨y,H1,I1,r1,q1⟩=>?_) hs
 exact store_ok I1 hN hi hx r1 (fun s2 I2=>⟨_,H1,I2,q1⟩) hf
end
section
variable {X:Cx} {pos:Pos}
def tWhile(c:TT)(tb:TS):TS:=fun D σ H=>∃ W:Nat->St->Hp->Prop,(∃ m,W m σ H)/\∀ m σ H,W m σ H ->
 c σ H fun b H1=>if b=true then ∃ N:St->Hp->Prop,(∀ σ' H',N σ' H'->∃ m',m'<m/\W m' σ' H')/\tb { D with nx:=N,ct:=N,bk:=D.nx } σ H1 else D.nx σ H1
theorem ps_while{c:Expr}{body:List Stmt}{tc:TT}{tb:TS}(hp:PassesOwn (model X.prog X.w) X.A X.env X.xe)(hc:PT X c tc)(hb:PSs X body tb):PS X (.While c body [] pos) (tWhile tc tb):=by
 intro pins s σ H D I h
 obtain ⟨W,⟨m0,w0⟩,turn⟩:=h
 refine wpAny_While (codeAny_whileLoop (fun n s'=>∃ σ' H',Inv X pins σ' H' s'/\W n σ' H') ?_ m0 ⟨σ,H,I,w0⟩)
 rintro n s1 ⟨σ1,H1,I1,w1⟩
 refine wpAny_passesOwn hp (thn (hc pins s1 σ1 H1 _ I1 (turn n σ1 H1 w1)) fun b s2 ⟨H2,I2,q2⟩=>?_)
 cases b with
 | true =>
  obtain ⟨N,hN,q2⟩:=q2
  rw [if_pos rfl]
  refine wpAny_passesOwn hp (thn (hb pins s2 σ1 H2 _ I2 q2) fun f s3 q3=>?_)
  cases f with
  | next =>
   obtain ⟨σ3,H3,I3,n3⟩:=q3
   obtain ⟨m',hm,w3⟩:=hN σ3 H3 n3
   exact ⟨m',hm,σ3,H3,I3,w3⟩
  | cont =>
   obtain ⟨σ3,H3,I3,n3⟩:=q3
   obtain ⟨m',hm,w3⟩:=hN σ3 H3 n3
   exact ⟨m',hm,σ3,H3,I3,w3⟩
  | brk=>exact q3
  | ret v=>exact q3
 | false =>
  rw [if_neg Bool.false_ne_true]
  exact wpAny_execs_nil ⟨σ1,H2,I2,q2⟩
end
structure It where
 go:Nat->Hp->Prop
 yld:Nat->Hp->V->Hp->Prop
 stop:Nat->Hp->Prop
def FpOk(X:Cx)(pins:List (Addr×Obj))(H:Hp)(b:Addr):Prop :=
 H b=none/\b≠X.env.locals/\b∉X.fs/\(b∈X.ex\/X.s₀.heap.objs.size<=b)/\(∀ x c,X.env.cells.lookup x=some c->c≠b)/\∀ p∈X.pn++pins,p.1≠b
theorem Inv.fpOk{X:Cx}{pins:List (Addr×Obj)}{σ:St}{H H':Hp}{s:Shared}{b:Addr}(I:Inv X pins σ H s)(hb:s.heap.objs.size<=b)(hn:H' b=none):FpOk X pins H' b:=by
 refine ⟨hn,Nat.ne_of_gt (Nat.lt_of_lt_of_le I.lt hb),I.nofs hb,.inr (Nat.le_trans I.sz hb),fun x c e z=>?_,fun p hp z=>?_⟩
 ·obtain ⟨v,q⟩:=I.cell x c e
  exact absurd (Nat.lt_of_lt_of_le q.lt (by rw [z];exact hb)) (Nat.lt_irrefl _)
 ·exact absurd (Nat.lt_of_lt_of_le (Heap.lt_size (I.pin p hp).1) (by rw [z];exact hb)) (Nat.lt_irrefl _)
structure Turn(P:Program)(w:World)(K:PySem.W.Frag)(tg:Expr)(J:It)(fp:List Addr)(it:Addr)(tn:Nat->Heap->Prop):Prop where
 mem:it∈fp
 obj:∀ i h,tn i h->∀ b∈fp,∃ o,h.get? b=some o/\∀ v,o.data ≠ .cell v
 keep:∀ i h h',tn i h->(∀ b∈fp,∀ o,h.get? b=some o->h'.get? b=some o)->tn i h'
 item:∀ (X:Cx),X.prog=P->X.w=w->X.K=K->X.calm=true->∀ (i:Nat) (pins:List (Addr×Obj)) (s:Shared) (σ:St) (H:Hp) (E:Value->Shared->Prop),Inv X pins σ H s->(∀ b∈fp,FpOk X pins H b)->tn i s.heap->J.go i H ->
  wpAny (model P w) X.A (pyNext (.ref it)) (fun r s1=>∃ u,r=some u /\
   wpAny (model P w) X.A (letOwnedTupleGo tg (.ref it) u) (fun _ s2=>∃ x H',Inv X pins σ H' s2/\RelV x u/\J.yld i H x H'/\tn (i+1) s2.heap/\∀ b∈fp,H' b=none) E s1) E s
 done:∀ (X:Cx),X.prog=P->X.w=w->X.K=K->X.calm=true->∀ (i:Nat) (pins:List (Addr×Obj)) (s:Shared) (σ:St) (H:Hp) (E:Value->Shared->Prop),Inv X pins σ H s->(∀ b∈fp,FpOk X pins H b)->tn i s.heap->J.stop i H ->
  wpAny (model P w) X.A (pyNext (.ref it)) (fun r s1=>r=none/\Inv X pins σ H s1) E s
 self:∀ (A:Around) (i:Nat) (s:Shared) (Q:Value->Shared->Prop) (E:Value->Shared->Prop),tn i s.heap->Q (.ref it) s->wpAny (model P w) A (pyIter (.ref it)) Q E s
abbrev TI:=St->Hp->(It->Hp->Prop)->Prop
def PIE(X:Cx)(pins:List (Addr×Obj))(σ:St)(tg:Expr)(R:It->Hp->Prop)(itv:Value)(s2:Shared):Prop :=
 ∃ (it:Addr) (fp:List Addr) (tn:Nat->Heap->Prop) (J:It) (H':Hp),itv = .ref it/\Inv X pins σ H' s2/\Turn X.prog X.w X.K tg J fp it tn/\tn 0 s2.heap/\(∀ b∈fp,FpOk X pins H' b)/\R J H'
def PI(X:Cx)(tg iter:Expr)(wi:TI):Prop :=
 ∀ (pins:List (Addr×Obj)) (s:Shared) (σ:St) (H:Hp) (R:It->Hp->Prop),Inv X pins σ H s->wi σ H R ->
  wpAny (model X.prog X.w) X.A (eval iter X.env) (fun v s1=>wpAny (model X.prog X.w) X.A (pyIter v) (PIE X pins σ tg R) X.xe s1) X.xe s
theorem go_of{M : Model}{A : Around}{E : Value -> Shared -> Prop}{s : Shared}{tg : Expr}{it : Addr}{u : Value}{o : Obj}{n : String}{vs : Array Value}{Q : Unit -> Shared -> Prop}(ho : s.heap.get? it = some o)(hc : o.cls = .type n)(hd : o.data = .fields vs)
    (hn : ["enumerate", "zip", "dict_itemiterator", "dict_reverseitemiterator", "odict_iterator", "itertools.zip_longest", "itertools.pairwise"].contains n = false) (hQ : Q () s) : wpAny M A (letOwnedTupleGo tg (.ref it) u) Q E s := by
  unfold letOwnedTupleGo
  cases tg <;> first
    | exact wpAny_pure hQ
    | (cases u <;> first
        | exact wpAny_pure hQ
        | (refine wpAny_bind (wpAny_load ho ?_)
           rw [hc, hd]
           show wpAny M A (if (["enumerate", "zip", "dict_itemiterator", "dict_reverseitemiterator", "odict_iterator", "itertools.zip_longest", "itertools.pairwise"].contains n && vs[0]? == some (rawInt _)) = true then _ else _) Q E s
           rw [if_neg (by intro h; rw [hn, Bool.false_and] at h; cases h)]
           exact wpAny_pure hQ))
def Itl(K:PySem.W.Frag)(a:Addr):It :=
 ⟨fun i H=>∃ xs x,SqL K H a xs/\xs[i]? = some x,fun i H x H'=>H'=H/\∀ xs,SqL K H a xs->xs[i]? = some x,fun i H=>∃ xs,SqL K H a xs/\xs.length<=i⟩
def Itt(K:PySem.W.Frag)(a:Addr):It :=
 ⟨fun i H=>∃ xs x,SqT K H a xs/\xs[i]? = some x,fun i H x H'=>H'=H/\∀ xs,SqT K H a xs->xs[i]? = some x,fun i H=>∃ xs,SqT K H a xs/\xs.length<=i⟩
def Itr(lo:Int)(n:Nat):It:=⟨fun i _=>i<n,fun i H x H'=>H'=H/\x = .int (lo+i),fun i _=>n<=i⟩
theorem turn_list{P:Program}{w:World}{K:PySem.W.Frag}{tg:Expr}(a it:Addr):Turn P w K tg (Itl K a) [it] it (fun i h=>h.IsListIter it a i) where
 mem:=by simp
 obj:=fun i h st b hb=>by
  have e:b=it:=by simpa using hb
  subst e
  obtain ⟨o,e,c,d⟩:=st
  exact ⟨o,e,fun v z=>by rw [d] at z;cases z⟩
 keep:=fun i h h' st k=>st.at fun o e=>k it (by simp) o e
 item:=by
  intro X hP hw hK hc i pins s σ H E I hf st hg
  subst hP hw hK
  obtain ⟨xs,x,hq,hx⟩:=hg
  obtain ⟨its,rv,p,hz⟩:=I.list hq
  obtain ⟨u,hu,ru⟩:=rv.get hx
  obtain ⟨f0,f1,f2,f3,f4,f5⟩:=hf it (by simp)
  refine wpAny_pyNext_list_item st p.isList (x:=u) (by simpa using hu) fun h' st' sb=>?_
  have I1:Inv X pins σ H { s with heap:=h' }:=I.turned (t':=s.toks) (fun b o hb e=>(sb.2 b hb).trans e) f0 f1 f3 f4 f5
  obtain ⟨o,e,c,d⟩:=id st'
  exact ⟨u,rfl,go_of (s:={ s with heap:=h' }) e c d (by decide) ⟨x,H,I1,ru,⟨rfl,fun ys hy=>by rw [I.list_inj hy hq];exact hx⟩,st',fun b hb=>(hf b hb).1⟩⟩
 done:=by
  intro X hP hw hK hc i pins s σ H E I hf st hg
  subst hP hw hK
  obtain ⟨xs,hq,hx⟩:=hg
  obtain ⟨its,rv,p,hz⟩:=I.list hq
  obtain ⟨f0,f1,f2,f3,f4,f5⟩:=hf it (by simp)
  have hl:=rv.length
  exact wpAny_pyNext_list_end (I.ok.hd hc) st p.isList (by simp;lia) fun h' eb=>⟨rfl,I.turned (t':=s.toks) (fun b o hb e=>eb b o hb e) f0 f1 f3 f4 f5⟩
 self:=fun _ _ _ _ _ st h=>wpAny_pyIter_listiter st h
theorem turn_tuple{P:Program}{w:World}{K:PySem.W.Frag}{tg:Expr}(a it:Addr):Turn P w K tg (Itt K a) [it] it (fun i h=>h.IsTupleIter it a i) where
 mem:=by simp
 obj:=fun i h st b hb=>by
  have e:b=it:=by simpa using hb
  subst e
  obtain ⟨o,e,c,d⟩:=st
  exact ⟨o,e,fun v z=>by rw [d] at z;cases z⟩
 keep:=fun i h h' st k=>st.at fun o e=>k it (by simp) o e
 item:=by
  intro X hP hw hK hc i pins s σ H E I hf st hg
  subst hP hw hK
  obtain ⟨xs,x,hq,hx⟩:=hg
  obtain ⟨its,rv,p,hz⟩:=I.tuple hq
  obtain ⟨u,hu,ru⟩:=rv.get hx
  obtain ⟨f0,f1,f2,f3,f4,f5⟩:=hf it (by simp)
  refine wpAny_pyNext_tuple_item st (show s.heap.IsTuple a its.toArray from p) (x:=u) (by simpa using hu) fun h' st' sb=>?_
  have I1:Inv X pins σ H { s with heap:=h' }:=I.turned (t':=s.toks) (fun b o hb e=>(sb.2 b hb).trans e) f0 f1 f3 f4 f5
  obtain ⟨o,e,c,d⟩:=id st'
  exact ⟨u,rfl,go_of (s:={ s with heap:=h' }) e c d (by decide) ⟨x,H,I1,ru,⟨rfl,fun ys hy=>by rw [I.tuple_inj hy hq];exact hx⟩,st',fun b hb=>(hf b hb).1⟩⟩
 done:=by
  intro X hP hw hK hc i pins s σ H E I hf st hg
  subst hP hw hK
  obtain ⟨xs,hq,hx⟩:=hg
  obtain ⟨its,rv,p,hz⟩:=I.tuple hq
  obtain ⟨f0,f1,f2,f3,f4,f5⟩:=hf it (by simp)
  have hl:=rv.length
  exact wpAny_pyNext_tuple_end (I.ok.hd hc) st (show s.heap.IsTuple a its.toArray from p) (by simp;lia) fun h' eb=>⟨rfl,I.turned (t':=s.toks) (fun b o hb e=>eb b o hb e) f0 f1 f3 f4 f5⟩
 self:=fun _ _ _ _ _ st h=>wpAny_pyIter_tupleiter st h
theorem turn_range{P:Program}{w:World}{K:PySem.W.Frag}{tg:Expr}(it:Addr)(lo:Int)(n:Nat):Turn P w K tg (Itr lo n) [it] it (fun i h=>IsRangeIter h it (lo+(i:Nat)*1) ((n:Int)-(i:Nat)) 1) where
 mem:=by simp
 obj:=fun i h st b hb=>by
  have e:b=it:=by simpa using hb
  subst e
  exact ⟨_,st,fun v z=>by
   have z':Data.fields _=Data.cell v:=z
   cases z'⟩
 keep:=fun i h h' st k=>k it (by simp) _ st
 item:=by
  intro X hP hw hK hc i pins s σ H E I hf st hg
  subst hP hw hK
  obtain ⟨f0,f1,f2,f3,f4,f5⟩:=hf it (by simp)
  have W:=Walks.range (prog:=X.prog) (w:=X.w) (I.ok.hd hc) it lo 1 n
  refine W.item i s _ _ hg st fun v h' tk hv st' kk=>?_
  obtain ⟨t,rfl⟩:=hv
  have I1:Inv X pins σ H { s with heap:=h',toks:=tk }:=I.turned (fun b o hb e=>kk b o (by simpa using hb) e) f0 f1 f3 f4 f5
  refine ⟨_,rfl,go_of (s:={ s with heap:=h',toks:=tk }) (n := "range_iterator") st' rfl rfl (by decide) ⟨.int (lo+i),H,I1,⟨t,?_⟩,⟨rfl,rfl⟩,st',fun b hb=>(hf b hb).1⟩⟩
  rw [Int.mul_one]
 done:=by
  intro X hP hw hK hc i pins s σ H E I hf st hg
  subst hP hw hK
  obtain ⟨f0,f1,f2,f3,f4,f5⟩:=hf it (by simp)
  exact wpAny_pyNext_range_end (I.ok.hd hc) st (by have:n<=i:=hg;lia) fun h' eb=>⟨rfl,I.turned (t':=s.toks) (fun b o hb e=>eb b o hb e) f0 f1 f3 f4 f5⟩
 self:=fun _ _ _ _ _ st h=>wpAny_pyIter_rangeiter st h
open PySem PySem.Spec PyProof.Rows
section
variable {X:Cx} {tg:Expr}
def iList(K:PySem.W.Frag)(tl:TE):TI:=fun σ H R=>tl σ H fun x H1=>∃ a,x = .ref a/\(∃ xs,SqL K H1 a xs)/\R (Itl K a) H1
def iTup(K:PySem.W.Frag)(tl:TE):TI:=fun σ H R=>tl σ H fun x H1=>∃ a,x = .ref a/\(∃ xs,SqT K H1 a xs)/\R (Itt K a) H1
theorem pi_list{l:Expr}{tl:TE}(hl:PE X l tl):PI X tg l (iList X.K tl):=by
 intro pins s σ H R I h
 refine thn (hl pins s σ H _ I h) fun v s1 ⟨x,H1,I1,r1,q1⟩=>?_
 obtain ⟨a,e,⟨xs,hq⟩,q⟩:=q1
 subst e
 cases r1
 obtain ⟨its,rv,p,hz⟩:=I1.list hq
 refine wpAny_pyIter_list p.isList ?_
 refine ⟨s1.heap.objs.size,[s1.heap.objs.size],_,_,H1,rfl,I1.kept (t':=s1.toks) fun b o e=>Heap.get?_push_of_some _ e,turn_list a _,⟨_,Heap.get?_push_size _ rfl,rfl,rfl⟩,fun b hb=>?_,q⟩
 have e:b=s1.heap.objs.size:=by simpa using hb
 subst e
 exact I1.fpOk (Nat.le_refl _) (I1.hok.fresh (Nat.le_refl _))
theorem pi_tup{l:Expr}{tl:TE}(hl:PE X l tl):PI X tg l (iTup X.K tl):=by
 intro pins s σ H R I h
 refine thn (hl pins s σ H _ I h) fun v s1 ⟨x,H1,I1,r1,q1⟩=>?_
 obtain ⟨a,e,⟨xs,hq⟩,q⟩:=q1
 subst e
 cases r1
 obtain ⟨its,rv,p,hz⟩:=I1.tuple hq
 refine wpAny_pyIter_tuple (show s1.heap.IsTuple a its.toArray from p) ?_
 refine ⟨s1.heap.objs.size,[s1.heap.objs.size],_,_,H1,rfl,I1.kept (t':=s1.toks) fun b o e=>Heap.get?_push_of_some _ e,turn_tuple a _,⟨_,Heap.get?_push_size _ rfl,rfl,rfl⟩,fun b hb=>?_,q⟩
 have e:b=s1.heap.objs.size:=by simpa using hb
 subst e
 exact I1.fpOk (Nat.le_refl _) (I1.hok.fresh (Nat.le_refl _))
theorem range_it{pins:List (Addr×Obj)}{σ:St}{H:Hp}{s:Shared}{R:It->Hp->Prop}{E:Value->Shared->Prop}{lo hi:Int}{t u v:Tok}{tk:Nat}(I:Inv X pins σ H s)(h1 : -(2^62)<=lo)(h2:lo<2^62)(h3 : -(2^62)<=hi)(h4:hi<2^62)
  (q:R (Itr lo (hi-lo).toNat) H):wpAny (model X.prog X.w) X.A (pyIter (.ref s.heap.objs.size)) (PIE X pins σ tg R) E { s with heap:=s.heap.push { cls:=.type "range",data:=.fields #[.int lo t,.int hi u,.int 1 v] },toks:=tk }:=by
 refine wpAny_pyIter_range (IsRange.new ..) (small_one h1 h2 h3 h4) ?_
 have I1:Inv X pins σ H { s with heap:=s.heap.push { cls:=.type "range",data:=.fields #[.int lo t,.int hi u,.int 1 v] },toks:=tk }:=I.kept fun b o e=>Heap.get?_push_of_some _ e
 refine ⟨(s.heap.push { cls:=.type "range",data:=.fields #[.int lo t,.int hi u,.int 1 v] }).objs.size,[(s.heap.push { cls:=.type "range",data:=.fields #[.int lo t,.int hi u,.int 1 v] }).objs.size],_,_,H,rfl,
  I1.kept (t':=tk) fun b o e=>Heap.get?_push_of_some _ e,turn_range _ lo (hi-lo).toNat,?_,fun b hb=>?_,q⟩
 ·have e1:lo+((0:Nat):Int)*1=lo:=by simp
  have e2:(((hi-lo).toNat:Nat):Int)-((0:Nat):Int)=Builtin.Range.rangeSize lo hi 1:=by rw [rangeSize_one];split<;>lia
  show IsRangeIter _ _ (lo+((0:Nat):Int)*1) ((((hi-lo).toNat:Nat):Int)-((0:Nat):Int)) 1
  rw [e1,e2]
  exact Heap.get?_push_size _ rfl
 ·have e:b=(s.heap.push { cls:=.type "range",data:=.fields #[.int lo t,.int hi u,.int 1 v] }).objs.size:=by simpa using hb
  subst e
  exact I1.fpOk (Nat.le_refl _) (I1.hok.fresh (Nat.le_refl _))
def iRng1(ta:TA):TI:=fun σ H R=>ta σ H fun vs H1=>∃ j:Int,vs=[.int j] /\ -(2^62)<=j/\j<2^62/\R (Itr 0 j.toNat) H1
theorem y_o{a:Expr}{ta:TA}{p pos:Pos}(hg:Gl X "range")(hm:X.mg "range" = none)(ha:PA X [a] ta)(hs:starEach [a] X.env=[(false,eval a X.env)]:=by rfl):PI X tg (.Call (.Name "range" p) [a] [] pos) (iRng1 ta):=by
 intro pins s σ H R I h
 refine Call_ (ld_blt I hg hm boot_range (PyProof.Rows.callWith_type1 (thn (ha pos pins s σ H _ I h) fun us s1 ⟨vs,H1,I1,r1,q1⟩=>?_) hs rfl))
 obtain ⟨j,e,q1,q2,q⟩:=q1
 subst e
 cases r1 with
 | cons r rr =>
  cases rr
  obtain ⟨t,rfl⟩:=r
  exact call_range_1 (range_it I1 (by lia) (by lia) q1 q2 (by simpa using q))
def tFor(wi:TI)(g:TG)(tb:TS):TS:=fun D σ H=>wi σ H fun J H1=>∃ W:Nat->Nat->St->Hp->Prop,(∃ m,W 0 m σ H1)/\∀ i m σ H,W i m σ H ->
 (J.stop i H/\D.nx σ H)\/(J.go i H/\∃ N:St->Hp->Prop,(∀ σ' H',N σ' H'->∃ m',m'<m/\W (i+1) m' σ' H')/\∀ x H',J.yld i H x H'->g x σ H' fun σ2 H2=>tb { D with nx:=N,ct:=N,bk:=D.nx } σ2 H2)
def pinsAt(fp:List Addr)(h:Heap):List (Addr×Obj):=fp.filterMap fun b=>(h.get? b).map fun o=>(b,o)
theorem mem_pinsAt{fp:List Addr}{h:Heap}{b:Addr}{o:Obj}(hb:b∈fp)(e:h.get? b=some o):(b,o)∈pinsAt fp h:=List.mem_filterMap.mpr ⟨b,hb,by rw [e];rfl⟩
theorem of_pinsAt{fp:List Addr}{h:Heap}{p:Addr×Obj}(hp:p∈pinsAt fp h):p.1∈fp/\h.get? p.1=some p.2:=by
 obtain ⟨b,hb,e⟩:=List.mem_filterMap.mp hp
 cases q:h.get? b with
 | none=>rw [q] at e;cases e
 | some o =>
  rw [q] at e
  have e':(b,o)=p:=Option.some.inj e
  subst e'
  exact ⟨hb,q⟩
theorem Inv.pinned{pins:List (Addr×Obj)}{σ:St}{H:Hp}{s:Shared}{fp:List Addr}(I:Inv X pins σ H s)(hf:∀ b∈fp,FpOk X pins H b)(ho:∀ b∈fp,∃ o,s.heap.get? b=some o/\∀ v,o.data ≠ .cell v):Inv X (pins++pinsAt fp s.heap) σ H s :=
 I.pins_of fun p hp=>(List.mem_append.mp hp).elim (fun z=>I.pin p (List.mem_append_right _ z)) fun z=>by
  obtain ⟨hb,e⟩:=of_pinsAt z
  obtain ⟨f0,f1,f2,_⟩:=hf p.1 hb
  obtain ⟨o,e',d⟩:=ho p.1 hb
  rw [e] at e';cases e'
  exact ⟨e,f0,f1,f2,d⟩
theorem Inv.unpinned{pins pl:List (Addr×Obj)}{σ:St}{H:Hp}{s:Shared}(I:Inv X (pins++pl) σ H s):Inv X pins σ H s:=I.pins_of fun p hp=>I.pin p (List.mem_append_right _ (List.mem_append_left _ hp))
theorem x_e{iter:Expr}{body:List Stmt}{wi:TI}{g:TG}{tb:TS}{pos:Pos}(hp:PassesOwn (model X.prog X.w) X.A X.env X.xe)(hc:X.calm=true)(hi:PI X tg iter wi)(hg:PG X tg g)(hb:PSs X body tb)
  (hs:∀ x,foldedSetIterable iter X.env x=pure x:=by intro _;rfl):PS X (.For tg iter body [] pos) (tFor wi g tb):=by
 intro pins s σ H D I h
 refine wpAny_For (thn (hi pins s σ H _ I h) fun v s1 h1=>thn h1 fun itv s2 h2=>?_) hs
 obtain ⟨it,fp,tn,J,H2,e,I2,T,st2,f2,W,⟨m0,w0⟩,turn⟩:=h2
 subst e
 have stat:∀ {H':Hp},(∀ b∈fp,H' b=none)->∀ b∈fp,FpOk X pins H' b:=fun hn b hb=>⟨hn b hb,(f2 b hb).2⟩
 refine codeAny_forLoop_any (fun n s'=>∃ i σ' H',Inv X pins σ' H' s'/\tn i s'.heap/\(∀ b∈fp,H' b=none)/\W i n σ' H') ?_ m0 ⟨0,σ,H2,I2,st2,fun b hb=>(f2 b hb).1,w0⟩
 rintro n s3 ⟨i,σ3,H3,I3,st3,fr3,w3⟩
 rcases turn i n σ3 H3 w3 with ⟨stop,qn⟩ | ⟨go,N,hN,step⟩
 ·refine wpAny_passesOwn hp (thn (T.done X rfl rfl rfl hc i pins s3 σ3 H3 X.xe I3 (stat fr3) st3 stop) fun r s4 ⟨hr,I4⟩=>?_)
  subst hr
  exact wpAny_execs_nil ⟨σ3,H3,I4,qn⟩
 ·refine wpAny_passesOwn hp (thn (T.item X rfl rfl rfl hc i pins s3 σ3 H3 X.xe I3 (stat fr3) st3 go) fun r s4 ⟨u,hr,h4⟩=>?_)
  subst hr
  refine wpAny_passesOwn hp (thn h4 fun _ s5 ⟨x,H5,I5,r5,y5,st5,fr5⟩=>?_)
  have I5':=I5.pinned (stat fr5) (T.obj _ _ st5)
  refine wpAny_passesOwn hp (thn (hg _ s5 σ3 H5 x u _ I5' r5 (step x H5 y5)) fun _ s6 ⟨σ6,H6,I6,q6⟩=>?_)
  refine wpAny_passesOwn hp (thn (hb _ s6 σ6 H6 _ I6 q6) fun f s7 q7=>?_)
  have again:∀ {σ7:St} {H7:Hp},Inv X (pins++pinsAt fp s5.heap) σ7 H7 s7->N σ7 H7->∃ m,m<n/\∃ i σ' H',Inv X pins σ' H' s7/\tn i s7.heap/\(∀ b∈fp,H' b=none)/\W i m σ' H':=fun {σ7 H7} I7 n7=>by
   obtain ⟨m',hm,w7⟩:=hN σ7 H7 n7
   refine ⟨m',hm,i+1,σ7,H7,I7.unpinned,T.keep _ _ _ st5 fun b hb o e=>(I7.pin (b,o) (List.mem_append_right _ (List.mem_append_right _ (mem_pinsAt hb e)))).1,fun b hb=>?_,w7⟩
   obtain ⟨o,e,d⟩:=T.obj _ _ st5 b hb
   exact (I7.pin (b,o) (List.mem_append_right _ (List.mem_append_right _ (mem_pinsAt hb e)))).2.1
  cases f with
  | next=>obtain ⟨σ7,H7,I7,n7⟩:=q7;exact again I7 n7
  | cont=>obtain ⟨σ7,H7,I7,n7⟩:=q7;exact again I7 n7
  | brk=>obtain ⟨σ7,H7,I7,q7⟩:=q7;exact ⟨σ7,H7,I7.unpinned,q7⟩
  | ret v=>obtain ⟨x7,σ7,H7,I7,r7,q7⟩:=q7;exact ⟨x7,σ7,H7,I7.unpinned,r7,q7⟩
end
theorem for_list{K:PySem.W.Frag}{a:Addr}{xs:List V}{g:TG}{tb:TS}{D:Ends}{σ:St}{H:Hp}(Pv:Nat->St->Hp->Prop)(h0:Pv 0 σ H)(hl:∀ i σ H,i<=xs.length->Pv i σ H->SqL K H a xs)
  (hs:∀ i x σ H,xs[i]? = some x->Pv i σ H->g x σ H fun σ2 H2=>tb { D with nx:=Pv (i+1),ct:=Pv (i+1),bk:=D.nx } σ2 H2) (hd:∀ σ H,Pv xs.length σ H->D.nx σ H) :
  ∃ W:Nat->Nat->St->Hp->Prop,(∃ m,W 0 m σ H)/\∀ i m σ H,W i m σ H ->
   ((Itl K a).stop i H/\D.nx σ H)\/((Itl K a).go i H/\∃ N:St->Hp->Prop,(∀ σ' H',N σ' H'->∃ m',m'<m/\W (i+1) m' σ' H')/\∀ x H',(Itl K a).yld i H x H'->g x σ H' fun σ2 H2=>tb { D with nx:=N,ct:=N,bk:=D.nx } σ2 H2):=by
 refine ⟨fun i m σ H=>m=xs.length-i/\i<=xs.length/\Pv i σ H,⟨xs.length,by simp,Nat.zero_le _,h0⟩,?_⟩
 rintro i m σ H ⟨rfl,hi,p⟩
 have q:=hl i σ H hi p
 by_cases hlt:i<xs.length
 ·refine .inr ⟨⟨xs,xs[i],q,by simp [hlt]⟩,Pv (i+1),fun σ' H' p'=>⟨xs.length-(i+1),by lia,rfl,hlt,p'⟩,fun x H' y=>?_⟩
  obtain ⟨e,y⟩:=y
  subst e
  exact hs i x σ _ (y xs q) p
 ·have e:i=xs.length:=by lia
  subst e
  exact .inl ⟨⟨xs,q,Nat.le_refl _⟩,hd σ H p⟩
theorem for_tup{K:PySem.W.Frag}{a:Addr}{xs:List V}{g:TG}{tb:TS}{D:Ends}{σ:St}{H:Hp}(Pv:Nat->St->Hp->Prop)(h0:Pv 0 σ H)(hl:∀ i σ H,i<=xs.length->Pv i σ H->SqT K H a xs)
  (hs:∀ i x σ H,xs[i]? = some x->Pv i σ H->g x σ H fun σ2 H2=>tb { D with nx:=Pv (i+1),ct:=Pv (i+1),bk:=D.nx } σ2 H2) (hd:∀ σ H,Pv xs.length σ H->D.nx σ H) :
  ∃ W:Nat->Nat->St->Hp->Prop,(∃ m,W 0 m σ H)/\∀ i m σ H,W i m σ H ->
   ((Itt K a).stop i H/\D.nx σ H)\/((Itt K a).go i H/\∃ N:St->Hp->Prop,(∀ σ' H',N σ' H'->∃ m',m'<m/\W (i+1) m' σ' H')/\∀ x H',(Itt K a).yld i H x H'->g x σ H' fun σ2 H2=>tb { D with nx:=N,ct:=N,bk:=D.nx } σ2 H2):=by
 refine ⟨fun i m σ H=>m=xs.length-i/\i<=xs.length/\Pv i σ H,⟨xs.length,by simp,Nat.zero_le _,h0⟩,?_⟩
 rintro i m σ H ⟨rfl,hi,p⟩
 have q:=hl i σ H hi p
 by_cases hlt:i<xs.length
 ·refine .inr ⟨⟨xs,xs[i],q,by simp [hlt]⟩,Pv (i+1),fun σ' H' p'=>⟨xs.length-(i+1),by lia,rfl,hlt,p'⟩,fun x H' y=>?_⟩
  obtain ⟨e,y⟩:=y
  subst e
  exact hs i x σ _ (y xs q) p
 ·have e:i=xs.length:=by lia
  subst e
  exact .inl ⟨⟨xs,q,Nat.le_refl _⟩,hd σ H p⟩
theorem x_r{lo:Int}{n:Nat}{g:TG}{tb:TS}{D:Ends}{σ:St}{H:Hp}(Pv:Nat->St->Hp->Prop)(h0:Pv 0 σ H)
  (hs:∀ i σ H,i<n->Pv i σ H->g (.int (lo+i)) σ H fun σ2 H2=>tb { D with nx:=Pv (i+1),ct:=Pv (i+1),bk:=D.nx } σ2 H2) (hd:∀ σ H,Pv n σ H->D.nx σ H) :
  ∃ W:Nat->Nat->St->Hp->Prop,(∃ m,W 0 m σ H)/\∀ i m σ H,W i m σ H ->
   ((Itr lo n).stop i H/\D.nx σ H)\/((Itr lo n).go i H/\∃ N:St->Hp->Prop,(∀ σ' H',N σ' H'->∃ m',m'<m/\W (i+1) m' σ' H')/\∀ x H',(Itr lo n).yld i H x H'->g x σ H' fun σ2 H2=>tb { D with nx:=N,ct:=N,bk:=D.nx } σ2 H2):=by
 refine ⟨fun i m σ H=>m=n-i/\i<=n/\Pv i σ H,⟨n,by simp,Nat.zero_le _,h0⟩,?_⟩
 rintro i m σ H ⟨rfl,hi,p⟩
 by_cases hlt:i<n
 ·refine .inr ⟨hlt,Pv (i+1),fun σ' H' p'=>⟨n-(i+1),by lia,rfl,hlt,p'⟩,fun x H' y=>?_⟩
  obtain ⟨e,y⟩:=y
  subst e y
  exact hs i σ _ hlt p
 ·have e:i=n:=by lia
  subst e
  exact .inl ⟨Nat.le_refl _,hd σ H p⟩
open PySem PySem.Spec PyProof.Rows
abbrev R2:=V->V->Hp->VK->Prop
def OpR(X:Cx)(f:Value->Value->Sem Value)(r:R2):Prop :=
 ∀ (pins:List (Addr×Obj)) (s:Shared) (σ:St) (H:Hp) (x y:V) (v u:Value) (Q:VK),Inv X pins σ H s->RelV x v->RelV y u->r x y H Q ->
  wpAny (model X.prog X.w) X.A (f v u) (EP X pins σ Q) X.xe s
def UnR(X:Cx)(f:Value->Sem Value)(r:V->Hp->VK->Prop):Prop :=
 ∀ (pins:List (Addr×Obj)) (s:Shared) (σ:St) (H:Hp) (x:V) (v:Value) (Q:VK),Inv X pins σ H s->RelV x v->r x H Q ->
  wpAny (model X.prog X.w) X.A (f v) (EP X pins σ Q) X.xe s
def CallR(X:Cx)(f:Value)(r:List V->Hp->VK->Prop):Prop :=
 ∀ (pins:List (Addr×Obj)) (s:Shared) (σ:St) (H:Hp) (xs:List V) (us:List Value) (Q:VK),Inv X pins σ H s->Vals xs us->r xs H Q ->
  wpAny (model X.prog X.w) X.A (call f us) (EP X pins σ Q) X.xe s
def TruR(X:Cx)(r:V->Hp->(Bool->Hp->Prop)->Prop):Prop :=
 ∀ (pins:List (Addr×Obj)) (s:Shared) (σ:St) (H:Hp) (x:V) (v:Value) (Q:Bool->Hp->Prop),Inv X pins σ H s->RelV x v->r x H Q ->
  wpAny (model X.prog X.w) X.A (truthy v) (TP X pins σ Q) X.xe s
def tOp(r:R2)(ta tb:TE):TE:=fun σ H Q=>ta σ H fun x H1=>tb σ H1 fun y H2=>r x y H2 Q
def tUn(r:V->Hp->VK->Prop)(ta:TE):TE:=fun σ H Q=>ta σ H fun x H1=>r x H1 Q
def rI(C:Int->Int->Prop)(g:Int->Int->V):R2:=fun x y H Q=>∃ i j,x = .int i/\y = .int j/\C i j/\Q (g i j) H
def rI0(g:Int->Int->V):R2:=fun x y H Q=>∃ i j,x = .int i/\y = .int j/\Q (g i j) H
def rU(g:Int->V):V->Hp->VK->Prop:=fun x H Q=>∃ i,x = .int i/\Q (g i) H
section
variable {X:Cx} {a b c:Expr} {ta tb tc:TE} {pos:Pos}
theorem binT(ha:PE X a ta)(hb:PE X b tb){pins:List (Addr×Obj)}{s:Shared}{σ:St}{H:Hp}{R:V->V->Hp->Prop}(I:Inv X pins σ H s)
  (h:ta σ H fun x H1=>tb σ H1 fun y H2=>R x y H2) {Q:Value->Shared->Prop} {f:Value->Value->Sem Value}
  (hf:∀ v u s2 x y H2,Inv X pins σ H2 s2->RelV x v->RelV y u->R x y H2->wpAny (model X.prog X.w) X.A (f v u) Q X.xe s2) :
  wpAny (model X.prog X.w) X.A (eval a X.env) (fun v s₁=>wpAny (model X.prog X.w) X.A (eval b X.env) (fun u s₂=>wpAny (model X.prog X.w) X.A (f v u) Q X.xe s₂) X.xe s₁) X.xe s:=by
 refine thn (ha pins s σ H _ I h) fun v s1 ⟨x,H1,I1,r1,q1⟩=>?_
 refine thn (hb pins s1 σ H1 _ I1 q1) fun u s2 ⟨y,H2,I2,r2,q2⟩=>?_
 exact hf v u s2 x y H2 I2 r1 r2 q2
theorem z_o{op:Operator}{r:R2}(ho:OpR X (binaryOp op) r)(ha:PE X a ta)(hb:PE X b tb):PE X (.BinOp a op b pos) (tOp r ta tb):=by
 intro pins s σ H Q I h
 exact wpAny_BinOp (binT ha hb I h fun v u s2 x y H2 I2 rx ry q=>ho pins s2 σ H2 x y v u Q I2 rx ry q)
theorem pe_un{op:UnaryOp}{r:V->Hp->VK->Prop}(ho:UnR X (unaryOp op) r)(ha:PE X a ta):PE X (.UnaryOp op a pos) (tUn r ta):=by
 intro pins s σ H Q I h
 exact UnaryOp_ (thn (ha pins s σ H _ I h) fun v s1 ⟨x,H1,I1,r1,q1⟩=>ho pins s1 σ H1 x v Q I1 r1 q1)
theorem opI{f:Value->Value->Sem Value}{C:Int->Int->Prop}{g:Int->Int->Int}
  (rule:∀ (i j:Int) (t u:Tok) (s:Shared) (Q:Value->Shared->Prop) (E:Value->Shared->Prop),C i j->Q (.int (g i j) s.toks) { s with toks:=s.toks+1 }->wpAny (model X.prog X.w) X.A (f (.int i t) (.int j u)) Q E s) :
  OpR X f (rI C fun i j=>.int (g i j)):=by
 intro pins s σ H x y v u Q I rx ry h
 obtain ⟨i,j,rfl,rfl,hc,q⟩:=h
 obtain ⟨t,rfl⟩:=rx
 obtain ⟨t',rfl⟩:=ry
 exact rule i j t t' s _ _ hc ⟨.int (g i j),H,I.tok _,⟨_,rfl⟩,q⟩
theorem opI0{f:Value->Value->Sem Value}{g:Int->Int->Int}
  (rule:∀ (i j:Int) (t u:Tok) (s:Shared) (Q:Value->Shared->Prop) (E:Value->Shared->Prop),Q (.int (g i j) s.toks) { s with toks:=s.toks+1 }->wpAny (model X.prog X.w) X.A (f (.int i t) (.int j u)) Q E s) :
  OpR X f (rI0 fun i j=>.int (g i j)):=by
 intro pins s σ H x y v u Q I rx ry h
 obtain ⟨i,j,rfl,rfl,q⟩:=h
 obtain ⟨t,rfl⟩:=rx
 obtain ⟨t',rfl⟩:=ry
 exact rule i j t t' s _ _ ⟨.int (g i j),H,I.tok _,⟨_,rfl⟩,q⟩
theorem opB0{f:Value->Value->Sem Value}{g:Int->Int->Bool}
  (rule:∀ (i j:Int) (t u:Tok) (s:Shared) (Q:Value->Shared->Prop) (E:Value->Shared->Prop),Q (.bool (g i j)) s->wpAny (model X.prog X.w) X.A (f (.int i t) (.int j u)) Q E s) :
  OpR X f (rI0 fun i j=>.bl (g i j)):=by
 intro pins s σ H x y v u Q I rx ry h
 obtain ⟨i,j,rfl,rfl,q⟩:=h
 obtain ⟨t,rfl⟩:=rx
 obtain ⟨t',rfl⟩:=ry
 exact rule i j t t' s _ _ ⟨.bl (g i j),H,I,rfl,q⟩
def CPow(i j:Int):Prop:=0<=j/\j<=1000000/\i.natAbs<2^64
def CMul(i j:Int):Prop:=(-(2^64)<i/\i<2^64)\/(-(2^64)<j/\j<2^64)
theorem CMul.ok{i j:Int}(h:CMul i j):IntMulOk i j:=by
 rcases h with ⟨h1,h2⟩ | ⟨h1,h2⟩
 ·exact .of_left (intBits_le_64 h1 h2)
 ·exact .of_right (intBits_le_64 h1 h2)
theorem y_k:OpR X (binaryOp .Add) (rI0 fun i j=>.int (i+j)):=opI0 fun _ _ _ _ _ _ _ q=>add_int q
theorem op_sub:OpR X (binaryOp .Sub) (rI0 fun i j=>.int (i-j)):=opI0 fun _ _ _ _ _ _ _ q=>sub_int q
theorem op_mul:OpR X (binaryOp .Mult) (rI CMul fun i j=>.int (i*j)):=opI fun _ _ _ _ _ _ _ hc q=>mul_int q hc.ok
theorem op_mod:OpR X (binaryOp .Mod) (rI (fun _ j=>0<j) fun i j=>.int (i%j)):=opI fun i j _ _ _ _ _ hc q=>by
 have h1:(0:Int)<j:=hc
 exact mod_int' (by lia) (by rw [Int.fmod_eq_emod_of_nonneg i (by lia)];exact q)
theorem op_pow:OpR X (binaryOp .Pow) (rI CPow fun i j=>.int (i^j.toNat)):=opI fun _ _ _ _ _ _ _ hc q=>pow_int_small hc.1 hc.2.1 hc.2.2 q
theorem op_shl:OpR X (binaryOp .LShift) (rI CPow fun i j=>.int (i*2^j.toNat)):=opI fun _ _ _ _ _ _ _ hc q=>lshift_int_small hc.1 hc.2.1 hc.2.2 q
theorem unI{f:Value->Sem Value}{g:Int->Int}
  (rule:∀ (i:Int) (t:Tok) (s:Shared) (Q:Value->Shared->Prop) (E:Value->Shared->Prop),Q (.int (g i) s.toks) { s with toks:=s.toks+1 }->wpAny (model X.prog X.w) X.A (f (.int i t)) Q E s) :
  UnR X f (rU fun i=>.int (g i)):=by
 intro pins s σ H x v Q I rx h
 obtain ⟨i,rfl,q⟩:=h
 obtain ⟨t,rfl⟩:=rx
 exact rule i t s _ _ ⟨.int (g i),H,I.tok _,⟨_,rfl⟩,q⟩
theorem un_neg:UnR X (unaryOp .USub) (rU fun i=>.int (-i)):=unI fun _ _ _ _ _ q=>neg_int q
end
def scal:V->V->Bool
 | .non,.non=>true | .non,.int _=>true | .int _,.non=>true | .non,.bl _=>true | .bl _,.non=>true | .non,.str _=>true | .str _,.non=>true
 | .int _,.int _=>true | .bl _,.bl _=>true | .str _,.str _=>true | .byt _,.byt _=>true
 | .int _,.str _=>true | .str _,.int _=>true | .bl _,.str _=>true | .str _,.bl _=>true
 | _,_=>false
def rEq:R2:=fun x y H Q=>scal x y=true/\Q (.bl (decide (x=y))) H
def rNe:R2:=fun x y H Q=>scal x y=true/\Q (.bl (!decide (x=y))) H
theorem dec_int{i j:Int}:decide (V.int i=V.int j)=(i == j):=by
 rw [Bool.eq_iff_iff]
 simp
theorem dec_bl{i j:Bool}:decide (V.bl i=V.bl j)=(i == j):=by
 rw [Bool.eq_iff_iff]
 simp
theorem dec_str{i j:Str}:decide (V.str i=V.str j)=(i == j):=by
 rw [Bool.eq_iff_iff]
 simp
theorem dec_byt{i j:Array UInt8}:decide (V.byt i=V.byt j)=(i.toList == j.toList):=by
 rw [Bool.eq_iff_iff]
 cases i
 cases j
 simp
section
variable {X:Cx} {a b c:Expr} {ta tb tc:TE} {pos:Pos}
theorem y_m{pins:List (Addr×Obj)}{σ:St}{H:Hp}{s:Shared}{Q:VK}{k k':Bool}(I:Inv X pins σ H s)(q:Q (.bl k) H)(e:k=k'):EP X pins σ Q (.bool k') s:=by
 subst e
 exact ⟨.bl k,H,I,rfl,q⟩
theorem op_eq:OpR X (compareOp .Eq) rEq:=by
 intro pins s σ H x y v u Q I rx ry h
 obtain ⟨hs,q⟩:=h
 cases x with
 | non =>
  cases rx
  cases y with
  | non=>cases ry;exact PySem.EqNone.eq_none_none (y_m I q (by simp))
  | bl j=>cases ry;exact PySem.EqNone.eq_none_bool (y_m I q (by simp))
  | int j=>obtain ⟨t',rfl⟩:=ry;exact PySem.EqNone.eq_none_int (y_m I q (by simp))
  | str j=>obtain ⟨t',rfl⟩:=ry;exact PySem.EqNone.eq_none_str (y_m I q (by simp))
  | _=>exact absurd (show false=true from hs) Bool.false_ne_true
 | bl i =>
  cases rx
  cases y with
  | non=>cases ry;exact PySem.EqNone.eq_bool_none (y_m I q (by simp))
  | bl j=>cases ry;exact eq_bool (y_m I q dec_bl)
  | str j=>obtain ⟨t',rfl⟩:=ry;exact PySem.EqMixed.eq_bool_str (y_m I q (by simp))
  | _=>exact absurd (show false=true from hs) Bool.false_ne_true
 | int i =>
  obtain ⟨t,rfl⟩:=rx
  cases y with
  | non=>cases ry;exact PySem.EqNone.eq_int_none (y_m I q (by simp))
  | int j=>obtain ⟨t',rfl⟩:=ry;exact eq_int (y_m I q dec_int)
  | str j=>obtain ⟨t',rfl⟩:=ry;exact PySem.EqMixed.eq_int_str (y_m I q (by simp))
  | _=>exact absurd (show false=true from hs) Bool.false_ne_true
 | str i =>
  obtain ⟨t,rfl⟩:=rx
  cases y with
  | non=>cases ry;exact PySem.EqNone.eq_str_none (y_m I q (by simp))
  | bl j=>cases ry;exact PySem.EqMixed.eq_str_bool (y_m I q (by simp))
  | int j=>obtain ⟨t',rfl⟩:=ry;exact PySem.EqMixed.eq_str_int (y_m I q (by simp))
  | str j=>obtain ⟨t',rfl⟩:=ry;exact eq_str (y_m I q dec_str)
  | _=>exact absurd (show false=true from hs) Bool.false_ne_true
 | byt i =>
  obtain ⟨t,rfl⟩:=rx
  cases y with
  | byt j=>obtain ⟨t',rfl⟩:=ry;exact PySem.W.eq_bytes (y_m I q dec_byt)
  | _=>exact absurd (show false=true from hs) Bool.false_ne_true
 | _=>cases y<;>exact absurd (show false=true from hs) Bool.false_ne_true
theorem op_ne:OpR X (compareOp .NotEq) rNe:=by
 intro pins s σ H x y v u Q I rx ry h
 obtain ⟨hs,q⟩:=h
 cases x with
 | non =>
  cases rx
  cases y with
  | non=>cases ry;exact PySem.EqNone.ne_none_none (y_m I q (by simp))
  | bl j=>cases ry;exact PySem.EqNone.ne_none_bool (y_m I q (by simp))
  | int j=>obtain ⟨t',rfl⟩:=ry;exact PySem.EqNone.ne_none_int (y_m I q (by simp))
  | str j=>obtain ⟨t',rfl⟩:=ry;exact PySem.EqNone.ne_none_str (y_m I q (by simp))
  | _=>exact absurd (show false=true from hs) Bool.false_ne_true
 | bl i =>
  cases rx
  cases y with
  | non=>cases ry;exact PySem.EqNone.ne_bool_none (y_m I q (by simp))
  | bl j=>cases ry;exact ne_bool (y_m I q (congrArg not dec_bl))
  | str j=>obtain ⟨t',rfl⟩:=ry;exact PySem.EqMixed.ne_bool_str (y_m I q (by simp))
  | _=>exact absurd (show false=true from hs) Bool.false_ne_true
 | int i =>
  obtain ⟨t,rfl⟩:=rx
  cases y with
  | non=>cases ry;exact PySem.EqNone.ne_int_none (y_m I q (by simp))
  | int j=>obtain ⟨t',rfl⟩:=ry;exact ne_int (y_m I q (congrArg not dec_int))
  | str j=>obtain ⟨t',rfl⟩:=ry;exact PySem.EqMixed.ne_int_str (y_m I q (by simp))
  | _=>exact absurd (show false=true from hs) Bool.false_ne_true
 | str i =>
  obtain ⟨t,rfl⟩:=rx
  cases y with
  | non=>cases ry;exact PySem.EqNone.ne_str_none (y_m I q (by simp))
  | bl j=>cases ry;exact PySem.EqMixed.ne_str_bool (y_m I q (by simp))
  | int j=>obtain ⟨t',rfl⟩:=ry;exact PySem.EqMixed.ne_str_int (y_m I q (by simp))
  | str j=>obtain ⟨t',rfl⟩:=ry;exact ne_str (y_m I q (congrArg not dec_str))
  | _=>exact absurd (show false=true from hs) Bool.false_ne_true
 | byt i =>
  obtain ⟨t,rfl⟩:=rx
  cases y with
  | byt j=>obtain ⟨t',rfl⟩:=ry;exact PySem.W.ne_bytes (y_m I q (congrArg not dec_byt))
  | _=>exact absurd (show false=true from hs) Bool.false_ne_true
 | _=>cases y<;>exact absurd (show false=true from hs) Bool.false_ne_true
theorem op_lt:OpR X (compareOp .Lt) (rI0 fun i j=>.bl (decide (i<j))):=opB0 fun _ _ _ _ _ _ _ q=>lt_int q
theorem op_le:OpR X (compareOp .LtE) (rI0 fun i j=>.bl (decide (i<=j))):=opB0 fun _ _ _ _ _ _ _ q=>le_int q
theorem op_gt:OpR X (compareOp .Gt) (rI0 fun i j=>.bl (decide (j<i))):=opB0 fun _ _ _ _ _ _ _ q=>gt_int q
theorem op_isN:OpR X (compareOp .Is) (fun x y H Q=>y = .non/\Q (.bl (decide (x = .non))) H):=by
 intro pins s σ H x y v u Q I rx ry h
 obtain ⟨rfl,q⟩:=h
 cases ry
 refine is_none_gen (y_m I q ?_)
 cases x<;>first
  | (cases rx;rfl)
  | (obtain ⟨t,rfl⟩:=rx;rfl)
theorem nomark(b:Expr){op:CmpOp}(h:op ≠ .In:=by decide)(h2:op ≠ .NotIn:=by decide):behindInMarks op b=false:=by
 have e1:(op == CmpOp.In)=false:=by cases op<;>first | rfl | exact absurd rfl h
 have e2:(op == CmpOp.NotIn)=false:=by cases op<;>first | rfl | exact absurd rfl h2
 cases b<;>simp [behindInMarks,e1,e2]
theorem pe_cmpR{op:CmpOp}{r:R2}(ho:OpR X (compareOp op) r)(ha:PE X a ta)(hb:PE X b tb)(hm:behindInMarks op b=false):PE X (.Compare a [op] [b] pos) (tOp r ta tb):=by
 intro pins s σ H Q I h
 exact wpAny_Compare1 (binT ha hb I h fun v u s2 x y H2 I2 rx ry q=>ho pins s2 σ H2 x y v u Q I2 rx ry q) hm
def tTest(t:TE):TT:=fun σ H Q=>t σ H fun x H'=>∃ k,x = .bl k/\Q k H'
theorem z_s{op:CmpOp}{r:R2}(ho:OpR X (compareOp op) r)(ha:PE X a ta)(hb:PE X b tb)(hm:behindInMarks op b=false):PT X (.Compare a [op] [b] pos) (tTest (tOp r ta tb)):=by
 intro pins s σ H Q I h
 refine wpAny_isTrue_Compare1 (thn (ha pins s σ H _ I h) fun v s1 ⟨x,H1,I1,r1,q1⟩=>thn (hb pins s1 σ H1 _ I1 q1) fun u s2 ⟨y,H2,I2,r2,q2⟩ =>
  thn (ho pins s2 σ H2 x y v u _ I2 r1 r2 q2) fun c s3 ⟨z,H3,I3,r3,k,e,q3⟩=>?_) hm
 subst e
 cases r3
 exact wpAny_truthy_bool ⟨H3,I3,q3⟩
def TruV(K:PySem.W.Frag)(x:V)(H:Hp)(k:Bool):Prop :=
 match x with
 | .non=>k=false
 | .bl b=>k=b
 | .int i=>k=(i != 0)
 | .str y=>y.length<=sizeLine/\k=((y.length:Int) != 0)
 | .byt y=>y.size<=sizeLine/\k=((y.size:Int) != 0)
 | .ref p=>(∃ xs,SqL K H p xs/\k = !xs.isEmpty)\/(∃ xs,SqT K H p xs/\k = !xs.isEmpty)\/∃ kvs,H p=some (.dK kvs)/\k = !kvs.isEmpty
 | _=>False
theorem isEmpty_kv{κ:Type}{kvs:List (κ×V)}{vs:List (κ×Value)}(r:KV kvs vs):(!vs.isEmpty) = !kvs.isEmpty:=by
 cases r<;>rfl
theorem isEmpty_of{xs:List V}{its:List Value}(r:Vals xs its):(!its.toArray.isEmpty) = !xs.isEmpty:=by
 cases r<;>simp
theorem line63:(sizeLine:Nat)<2^63:=by rw [sizeLine_eq];decide
theorem tru_ok:TruR X (fun x H Q=>∃ k,TruV X.K x H k/\Q k H):=by
 intro pins s σ H x v Q I rx h
 obtain ⟨k,e,q⟩:=h
 have hl:=line63
 have hs:sizeLine=16777216:=sizeLine_eq
 cases x with
 | non =>
  cases rx
  have e':k=false:=e
  subst e'
  exact truthy_none ⟨H,I,q⟩
 | bl b =>
  cases rx
  have e':k=b:=e
  subst e'
  exact wpAny_truthy_bool ⟨H,I,q⟩
 | int i =>
  obtain ⟨t,rfl⟩:=rx
  have e':k=(i != 0):=e
  subst e'
  exact PySem.P.truthy_int ⟨H,I,q⟩
 | str y =>
  obtain ⟨t,rfl⟩:=rx
  obtain ⟨hy,e'⟩:y.length<=sizeLine/\k=((y.length:Int) != 0):=e
  subst e'
  exact PySem.P.truthy_str (by lia) ⟨H,I.tok _,q⟩
 | byt y =>
  obtain ⟨t,rfl⟩:=rx
  obtain ⟨hy,e'⟩:y.size<=sizeLine/\k=((y.size:Int) != 0):=e
  subst e'
  exact PySem.W.truthy_bytes (by lia) ⟨H,I.tok _,q⟩
 | ref p =>
  cases rx
  have e':(∃ xs,SqL X.K H p xs/\k = !xs.isEmpty)\/(∃ xs,SqT X.K H p xs/\k = !xs.isEmpty)\/∃ kvs,H p=some (.dK kvs)/\k = !kvs.isEmpty:=e
  rcases e' with ⟨xs,hx,e'⟩ | ⟨xs,hx,e'⟩ | ⟨kvs,hx,e'⟩
  ·subst e'
   obtain ⟨its,r,pl,hz⟩:=I.list hx
   have hlen:=r.length
   exact wpAny_truthy_list pl.isList (by simp only [List.size_toArray];lia) ⟨H,I.tok _,by rw [isEmpty_of r];exact q⟩
  ·subst e'
   obtain ⟨its,r,pl,hz⟩:=I.tuple hx
   have hlen:=r.length
   exact truthy_tuple pl (by simp only [List.size_toArray];lia) ⟨H,I.tok _,by rw [isEmpty_of r];exact q⟩
  ·subst e'
   obtain ⟨hz,hS,vs,r,m⟩:kvs.length<=sizeLine/\(p == sysModules)=false/\∃ vs,KV kvs vs/\s.heap.DictOf (mixKind X.prog X.w) p vs:=I.hok p _ hx
   have hlen:kvs.length=vs.length:=Paired.length r
   exact wpAny_truthy_dict hS m (by lia) ⟨H,I.tok _,by rw [isEmpty_kv r];exact q⟩
 | _=>exact (show False from e).elim
theorem pt_truth(ha:PE X a ta)(he:∀ whole,isTrue a X.env whole=(do let v <-whole;standAt a.pos;holding [v] (truthy v))) :
  PT X a (fun σ H Q=>ta σ H fun x H'=>∃ k,TruV X.K x H' k/\Q k H'):=by
 intro pins s σ H Q I h
 exact isTrue_plain (thn (ha pins s σ H _ I h) fun v s1 ⟨x,H1,I1,r1,q1⟩=>tru_ok pins s1 σ H1 x v Q I1 r1 q1) (he _)
theorem z_w:OpR X (binaryOp .Add) (fun x y H Q=>∃ i j,x = .str i/\y = .str j/\i.length+j.length<=sizeLine/\Q (.str (i++j)) H):=by
 intro pins s σ H x y v u Q I rx ry h
 obtain ⟨i,j,rfl,rfl,hz,q⟩:=h
 obtain ⟨t,rfl⟩:=rx
 obtain ⟨t',rfl⟩:=ry
 exact add_str (fun t' tk=>⟨.str (i++j),H,I.tok _,⟨_,rfl⟩,q⟩) hz
theorem vals1{x:V}{us:List Value}(r:Vals [x] us):∃ u,us=[u]/\RelV x u:=by
 cases r with
 | cons r1 r2=>cases r2;exact ⟨_,rfl,r1⟩
theorem vals2{x y:V}{us:List Value}(r:Vals [x,y] us):∃ u w',us=[u,w']/\RelV x u/\RelV y w':=by
 cases r with
 | cons r1 r2 =>
  cases r2 with
  | cons r3 r4=>cases r4;exact ⟨_,_,rfl,r1,r3⟩
theorem call_abs:CallR X (.builtin "abs") (fun xs H Q=>∃ i,xs=[.int i]/\Q (.int (if i<0 then -i else i)) H):=by
 intro pins s σ H xs us Q I r h
 obtain ⟨i,rfl,q⟩:=h
 obtain ⟨u,rfl,t,rfl⟩:=vals1 r
 exact call_abs_int fun u tk=>⟨.int (if i<0 then -i else i),H,I.tok _,⟨_,rfl⟩,q⟩
theorem call_max2(hc:X.calm=true):CallR X (.builtin "max") (fun xs H Q=>∃ i j,xs=[.int i,.int j]/\Q (.int (if j > i then j else i)) H):=by
 intro pins s σ H xs us Q I r h
 obtain ⟨i,j,rfl,q⟩:=h
 obtain ⟨u,w',rfl,⟨t,rfl⟩,⟨t',rfl⟩⟩:=vals2 r
 refine max_two_ints (I.ok.hd hc) fun h' tk k=>⟨_,H,I.kept k,?_,q⟩
 by_cases hj:j > i
 ·rw [if_pos hj,if_pos hj];exact ⟨_,rfl⟩
 ·rw [if_neg hj,if_neg hj];exact ⟨_,rfl⟩
theorem call_min2(hc:X.calm=true):CallR X (.builtin "min") (fun xs H Q=>∃ i j,xs=[.int i,.int j]/\Q (.int (if j<i then j else i)) H):=by
 intro pins s σ H xs us Q I r h
 obtain ⟨i,j,rfl,q⟩:=h
 obtain ⟨u,w',rfl,⟨t,rfl⟩,⟨t',rfl⟩⟩:=vals2 r
 refine min_two_ints (I.ok.hd hc) fun h' tk k=>⟨_,H,I.kept k,?_,q⟩
 by_cases hj:j<i
 ·rw [if_pos hj,if_pos hj];exact ⟨_,rfl⟩
 ·rw [if_neg hj,if_neg hj];exact ⟨_,rfl⟩
theorem call_int1:CallR X (.type "int") (fun xs H Q=>(∃ i,xs=[.int i]/\Q (.int i) H)\/∃ k,xs=[.bl k]/\Q (.int (if k then 1 else 0)) H):=by
 intro pins s σ H xs us Q I r h
 rcases h with ⟨i,rfl,q⟩ | ⟨k,rfl,q⟩
 ·obtain ⟨u,rfl,t,rfl⟩:=vals1 r
  exact call_int_int ⟨.int i,H,I,⟨_,rfl⟩,q⟩
 ·obtain ⟨u,rfl,r1⟩:=vals1 r
  cases r1
  exact call_int_bool ⟨.int (if k then 1 else 0),H,I.tok _,⟨_,rfl⟩,q⟩
theorem call_str_int:CallR X (.type "str") (fun xs H Q=>∃ i,xs=[.int i]/\i.natAbs.log2<1920/\Q (.str (toString i)) H):=by
 intro pins s σ H xs us Q I r h
 obtain ⟨i,rfl,hz,q⟩:=h
 obtain ⟨u,rfl,t,rfl⟩:=vals1 r
 exact PySem.P.str_of_int hz ⟨.str _,H,I.tok _,⟨_,rfl⟩,q⟩
def LenV(K:PySem.W.Frag)(x:V)(H:Hp)(n:Nat):Prop :=
 match x with
 | .str y=>y.length<=sizeLine/\n=y.length
 | .byt y=>y.size<=sizeLine/\n=y.size
 | .ref p=>(∃ xs,SqL K H p xs/\n=xs.length)\/∃ xs,SqT K H p xs/\n=xs.length
 | _=>False
theorem call_len:CallR X (.builtin "len") (fun xs H Q=>∃ x n,xs=[x]/\LenV X.K x H n/\Q (.int n) H):=by
 intro pins s σ H xs us Q I r h
 obtain ⟨x,n,rfl,e,q⟩:=h
 obtain ⟨u,rfl,rx⟩:=vals1 r
 have hl:=line63
 have hs:sizeLine=16777216:=sizeLine_eq
 cases x with
 | str y =>
  obtain ⟨t,rfl⟩:=rx
  obtain ⟨hy,e'⟩:y.length<=sizeLine/\n=y.length:=e
  subst e'
  exact len_str (by lia) ⟨.int _,H,I.tok _,⟨_,rfl⟩,q⟩
 | byt y =>
  obtain ⟨t,rfl⟩:=rx
  obtain ⟨hy,e'⟩:y.size<=sizeLine/\n=y.size:=e
  subst e'
  exact PySem.W.len_bytes (by lia) ⟨.int _,H,I.tok _,⟨_,rfl⟩,q⟩
 | ref p =>
  cases rx
  have e':(∃ xs,SqL X.K H p xs/\n=xs.length)\/∃ xs,SqT X.K H p xs/\n=xs.length:=e
  rcases e' with ⟨xs,hx,e'⟩ | ⟨xs,hx,e'⟩
  ·subst e'
   obtain ⟨its,r',pl,hz⟩:=I.list hx
   have hlen:=r'.length
   exact Calls.call_len_list pl.isList (by simp only [List.size_toArray];lia) ⟨.int xs.length,H,I.tok _,⟨_,by simp only [List.size_toArray];rw [hlen]⟩,q⟩
  ·subst e'
   obtain ⟨its,r',pl,hz⟩:=I.tuple hx
   have hlen:=r'.length
   exact len_tuple pl (by simp only [List.size_toArray];lia) ⟨.int xs.length,H,I.tok _,⟨_,by simp only [List.size_toArray];rw [hlen]⟩,q⟩
 | _=>exact (show False from e).elim
end
open PySem PySem.Spec PyProof.Rows
structure ObjM(h:Heap)(x dx C:Addr)(mA:Str->Option Value):Prop where
 obj:h.get? x=some (PySem.W.instObj C dx)
 ns:h.Ns1 dx mA
 ne:dx≠x
theorem lookIn_ns{h:Heap}{dx:Addr}{mA:Str->Option Value}(n:h.Ns1 dx mA):∃ od,h.get? dx=some od/\∀ name,PySem.W.lookIn name od=some (mA name):=by
 obtain ⟨o,es,ep,ho,hd,hk,_,hm⟩:=n
 refine ⟨o,ho,fun name=>?_⟩
 have e:=hm name
 unfold nsFind findBy at e
 rw [<-Array.find?_toList] at e
 unfold PySem.W.lookIn
 rw [hd]
 dsimp only
 split
 ·rename_i y q
  rw [q] at e
  exact congrArg some e
 ·rename_i q
  rw [q] at e
  have a:es.toList.any (·.refKey)=false:=by
   rw [List.any_eq_false]
   intro y hy
   obtain ⟨z,t,hkey⟩:=hk y (Array.mem_toList_iff.mp hy)
   simp [DictEntry.refKey,hkey]
  have a':¬es.toList.any (·.refKey)=true:=by rw [a];exact Bool.false_ne_true
  rw [if_neg a']
  exact congrArg some e
theorem ObjM.look{h:Heap}{x dx C:Addr}{mA:Str->Option Value}(I:ObjM h x dx C mA):∃ od,PySem.W.InstAt h x (PySem.W.instObj C dx) C (some od)/\∀ name,PySem.W.lookIn name od=some (mA name) :=
 let ⟨od,ho,hl⟩:=lookIn_ns I.ns
 ⟨od,⟨I.obj,rfl,rfl,ho⟩,hl⟩
theorem RelO.some_of{v:V}{o:Option Value}(r:RelO (some v) o):∃ u,o=some u/\RelV v u:=by
 cases o with
 | none=>exact (show False from r).elim
 | some u=>exact ⟨u,rfl,r⟩
section
variable {P:Program} {w:World} {H H':Hp} {h h':Heap} {a C dx:Addr} {fs fs':List (Str×V)}
theorem ins_get(hok:HOk P w H h)(e:H a=some (.ins C dx fs)):∃ mA,ObjM h a dx C mA/\(∀ f,RelO (fs.lookup f) (mA f))/\PySem.Within mA (fs.map (·.1))/\fs.length<=1000/\H dx=some (.own a):=by
 obtain ⟨d,z,ne,ob,mA,n,r,q⟩:=(show ObjOk P w H h a (.ins C dx fs) from hok a _ e)
 exact ⟨mA,⟨ob,n,ne⟩,r,q,z,d⟩
end
structure Cls(K:PySem.W.Frag)(C:Addr):Prop where
 pg:PySem.W.plainGet K C Str.empty=true
 hd:PySem.W.hasDictIn K C=true
 po:PySem.W.plainOver K C=true
 sa:PySem.W.findIn K (.ref C) "__setattr__" = some (some (.builtin "object.__setattr__"))
theorem Cls.get{K:PySem.W.Frag}{C:Addr}(c:Cls K C)(f:Str):PySem.W.plainGet K C f=true:=c.pg
section
variable {X:Cx} {pins:List (Addr×Obj)} {σ:St} {H:Hp} {s:Shared} {A:Around} {E:Value->Shared->Prop} {Q:Value->Shared->Prop} {c:Value} {b:Bool}
inductive TyOf (K:PySem.W.Frag) (H:Hp):V->Value->Prop where
 | non:TyOf K H .non (.type "NoneType")
 | bl (x:Bool):TyOf K H (.bl x) (.type "bool")
 | int (i:Int):TyOf K H (.int i) (.type "int")
 | str (x:Str):TyOf K H (.str x) (.type "str")
 | flt (x:UInt64):TyOf K H (.flt x) (.type "float")
 | lst {a:Addr} {xs:List V} (e:H a=some (.lst xs)):TyOf K H (.ref a) (.type "list")
 | frz {a:Addr} {o:Obj} {xs:List V} (e:H a=some (.frz o (.lst xs))):TyOf K H (.ref a) (.type "list")
 | tup {a:Addr} {xs:List V} (e:H a=some (.tup xs)):TyOf K H (.ref a) (.type "tuple")
 | dK {a:Addr} {kvs:List (Key×V)} (e:H a=some (.dK kvs)):TyOf K H (.ref a) (.type "dict")
 | dT {a:Addr} {kvs:List (List Key×V)} (e:H a=some (.dT kvs)):TyOf K H (.ref a) (.type "dict")
 | ins {a C dx:Addr} {fs:List (Str×V)} (e:H a=some (.ins C dx fs)) (cl:Cls K C) (ha:PySem.W.findIn K (.ref C) "__class__" = some (some (.builtin "object.__class__")))
   (hn:PySem.W.specialIn K (.builtin "object.__class__") "__get__" = some (some (.builtin "getset_descriptor.__get__"))) (htk:PySem.W.takesIn K (.builtin "object.__class__")=some true)
   (hm:PySem.W.mroIn K C (.type "object")=some true):TyOf K H (.ref a) (.ref C)
theorem isinst_ok{x:V}{u t:Value}(I:Inv X pins σ H s)(rx:RelV x u)(ty:TyOf X.K H x t)(e:PySem.W.kitOne X.K t c=some b)(h:∀ tk,Q (.bool b) { s with toks:=tk }) :
  wpAny (model X.prog X.w) A (call (.builtin "isinstance") [u,c]) Q E s:=by
 cases ty with
 | non=>cases (show u=Value.none from rx);exact PySem.W.kia_one PySem.W.kitx_none I.kIn True.intro e (fun z=>nomatch z) h
 | bl y=>cases (show u=Value.bool y from rx);exact PySem.W.kia_one PySem.W.kitx_bool I.kIn True.intro e (fun z=>nomatch z) h
 | int i=>obtain ⟨t,q⟩:=(show ∃ t,u=Value.int i t from rx);cases q;exact PySem.W.kia_one PySem.W.kitx_int I.kIn True.intro e (fun z=>nomatch z) h
 | str y=>obtain ⟨t,q⟩:=(show ∃ t,u=Value.str y t from rx);cases q;exact PySem.W.kia_one PySem.W.kitx_str I.kIn True.intro e (fun z=>nomatch z) h
 | flt y=>obtain ⟨t,q⟩:=(show ∃ t,u=Value.float y t from rx);cases q;exact PySem.W.kia_one PySem.W.kitx_float I.kIn True.intro e (fun z=>nomatch z) h
 | @lst a xs ea =>
  cases (show u=Value.ref a from rx)
  obtain ⟨_,_,n,_,h1⟩:=(show ObjOk X.prog X.w H s.heap a (.lst xs) from I.hok a _ ea)
  exact PySem.W.kia_one PySem.W.kitx_list I.kIn ⟨_,h1,rfl⟩ e (fun z=>nomatch z) h
 | @frz a ob xs ea =>
  cases (show u=Value.ref a from rx)
  obtain ⟨_,_,_,n,_,h1⟩:=(show ObjOk X.prog X.w H s.heap a (.frz ob (.lst xs)) from I.hok a _ ea)
  exact PySem.W.kia_one PySem.W.kitx_list I.kIn ⟨_,h1,rfl⟩ e (fun z=>nomatch z) h
 | @tup a xs ea =>
  cases (show u=Value.ref a from rx)
  obtain ⟨_,_,_,p⟩:=(show ObjOk X.prog X.w H s.heap a (.tup xs) from I.hok a _ ea)
  obtain ⟨o,h1,h2,_⟩:=p
  exact PySem.W.kia_one PySem.W.kitx_tuple I.kIn ⟨o,h1,h2⟩ e (fun z=>nomatch z) h
 | @dK a kvs ea =>
  cases (show u=Value.ref a from rx)
  obtain ⟨_,_,vs,_,p⟩:=(show ObjOk X.prog X.w H s.heap a (.dK kvs) from I.hok a _ ea)
  obtain ⟨o,es,ep,h1,h2,_⟩:=p
  exact PySem.W.kia_one PySem.W.kitx_dict I.kIn ⟨o,h1,h2.1⟩ e (fun z=>nomatch z) h
 | @dT a kvs ea =>
  cases (show u=Value.ref a from rx)
  obtain ⟨_,_,xs,_,o,es,ep,h1,h2,_⟩:=(show ObjOk X.prog X.w H s.heap a (.dT kvs) from I.hok a _ ea)
  exact PySem.W.kia_one PySem.W.kitx_dict I.kIn ⟨o,h1,h2.1⟩ e (fun z=>nomatch z) h
 | @ins a C dx fs ea cl ha hn htk hm =>
  cases (show u=Value.ref a from rx)
  obtain ⟨mA,O,_⟩:=ins_get I.hok ea
  obtain ⟨od,J,_⟩:=O.look
  exact PySem.W.kia_one (PySem.W.kitx_own (cl.get _) cl.hd ha hn htk hm) I.kIn J e (fun z=>nomatch z) h
end
open PySem PySem.Spec PyProof.Rows
structure Room(k:Nat)(A:Around):Prop where
 hd:A.handled=none
 dp:A.depth+3*k+5<recursionLimit
 un:A.units+16*k+200<cLine
theorem Room.mono{j k:Nat}{A:Around}(r:Room k A)(h:j<=k):Room j A:=⟨r.hd,by have:=r.dp;lia,by have:=r.un;lia⟩
theorem Room.deeper{k:Nat}{A:Around}(r:Room (k+1) A)(env:Env):Room k (A.deeper env) :=
 ⟨r.hd,by have:=r.dp;show A.depth+1+3*k+5<_;lia,by have:=r.un;show A.units+3+16*k+200<_;lia⟩
theorem Room.depth{k:Nat}{A:Around}(r:Room k A):A.depth<recursionLimit:=by have:=r.dp;lia
theorem Room.units{k:Nat}{A:Around}(r:Room k A):A.units+64<cLine:=by have:=r.un;lia
def tNil:TA:=fun _ H Q=>Q [] H
def tCons(ta:TE)(tr:TA):TA:=fun σ H Q=>ta σ H fun x H1=>tr σ H1 fun xs H2=>Q (x::xs) H2
section
variable {X:Cx} {e:Expr} {es:List Expr} {te:TE} {t:TA} {pos:Pos}
theorem z_d:PA X [] tNil:=fun _ _ _ _ H Q I h=>Calls.spliced_nil ⟨[],H,I,.nil,h⟩
theorem z_a(ha:PE X e te)(hr:PA X es t)(hs:starEach (e::es) X.env=(false,eval e X.env)::starEach es X.env:=by rfl):PA X (e::es) (tCons te t):=by
 intro pos pins s σ H Q I h
 rw [hs]
 show wpAny _ _ (spliced ((false,eval e X.env)::backTo pos (starEach es X.env))) _ _ s
 refine Calls.spliced_cons (thn (ha pins s σ H _ I h) fun u s1 ⟨x,H1,I1,r1,q1⟩=>?_)
 exact thn (hr pos pins s1 σ H1 _ I1 q1) fun us s2 ⟨xs,H2,I2,r2,q2⟩=>⟨x::xs,H2,I2,.cons r1 r2,q2⟩
def tTup(t:TA):TE:=fun σ H Q=>t σ H fun xs H1=>xs.length<=sizeLine/\∀ p,H1 p=none->Q (.ref p) (upd H1 p (.tup xs))
def tLst(t:TA):TE:=fun σ H Q=>t σ H fun xs H1=>xs.length<=sizeLine/\∀ p,H1 p=none->Q (.ref p) (upd H1 p (.lst xs))
theorem y_d{x1}(h:PA X es t):PE X (.Tuple es x1 pos) (tTup t):=by
 intro pins s σ H Q I hq
 refine wpAny_Tuple_spliced (thn (h pos pins s σ H _ I hq) fun us s1 ⟨xs,H1,I1,r,z,q⟩=>⟨by rw [<-r.length];exact z,?_⟩)
 have hf:H1 s1.heap.objs.size=none:=I1.hok.fresh (Nat.le_refl _)
 refine ⟨.ref s1.heap.objs.size,upd H1 s1.heap.objs.size (.tup xs),I1.laid (t':=s1.toks) (fun b u e=>Heap.get?_push_of_some _ e) (Nat.le_refl _) ?_,rfl,q _ hf⟩
 exact ⟨z,us,r,⟨_,Heap.get?_push_size _ rfl,rfl,_,rfl⟩⟩
theorem y_h(h:PA X es t):PE X (.List es pos) (tLst t):=by
 intro pins s σ H Q I hq
 refine wpAny_List_spliced (thn (h pos pins s σ H _ I hq) fun us s1 ⟨xs,H1,I1,r,z,q⟩=>⟨by rw [<-r.length];exact z,?_⟩)
 have hf:H1 s1.heap.objs.size=none:=I1.hok.fresh (Nat.le_refl _)
 refine ⟨.ref s1.heap.objs.size,upd H1 s1.heap.objs.size (.lst xs),I1.laid (t':=s1.toks) (fun b u e=>Heap.get?_push_of_some _ e) (Nat.le_refl _) ?_,rfl,q _ hf⟩
 exact ⟨z,us,0,r,Heap.get?_push_size _ rfl⟩
end
abbrev Sp:=List V->Hp->VK->XK->Prop
abbrev CXT:=List Env->Hp->Shared->XK->Value->Shared->Prop
structure Env0(P:Program)(w:World)(K:PySem.W.Frag)(mg:Str->Option Value)(base:Heap)(A:Around)(outer:List Env)(s:Shared)(H:Hp):Prop where
 frames:A.frames=some outer
 gd:A.guards=some []
 mod:Mod K mg base
 bs:∀ b o,base.get? b=some o->s.heap.get? b=some o/\H b=none
 bsz:base.objs.size<=s.heap.objs.size
 funs:s.heap.FunFrames base outer
 frf:∀ b∈frs outer,H b=none
 hok:HOk P w H s.heap
 bare:AllBare s.gens
def CE(outer:List Env)(P:Program)(w:World)(H:Hp)(s:Shared)(Q:VK)(u:Value)(s':Shared):Prop :=
 ∃ v H',s'.os=s.os/\AllBare s'.gens/\Un (frs outer) [] H H' s.heap s'.heap/\HOk P w H' s'.heap/\RelV v u/\Q v H'
def CR(CX:CXT)(outer:List Env)(P:Program)(w:World)(H:Hp)(s:Shared)(Q:VK)(E:XK)(r:Result)(s':Shared):Prop :=
 match r with
 | .ok (.ret u)=>CE outer P w H s Q u s'
 | .ok _=>False
 | .error e=>CX outer H s E e s'
structure FnOk(P:Program)(w:World)(K:PySem.W.Frag)(mg:Str->Option Value)(base:Heap)(CX:CXT)(k:Nat)(f:Addr)(fd:FuncData)(ps:List Str)(sp:Sp):Prop where
 len:∀ vs H Q E,sp vs H Q E->vs.length=ps.length
 run:∀ (A:Around) (outer:List Env) (s:Shared) (H:Hp) (args:Args) (us:List Value) (vs:List V) (Q:VK) (E:XK),Room k A->Env0 P w K mg base A outer s H->BindsTo s fd args (ps.zip us)->Vals vs us->sp vs H Q E ->
  codeAny (model P w) A (.call (.ref f) args) (CR CX outer P w H s Q E) s
theorem FnOk.mono{P:Program}{w:World}{K:PySem.W.Frag}{mg:Str->Option Value}{base:Heap}{CX:CXT}{j k:Nat}{f:Addr}{fd:FuncData}{ps:List Str}{sp:Sp}(F:FnOk P w K mg base CX j f fd ps sp)(h:j<=k) :
  FnOk P w K mg base CX k f fd ps sp:=⟨F.len,fun A outer s H args us vs Q E hr=>F.run A outer s H args us vs Q E (hr.mono h)⟩
section
variable {X:Cx} {pins:List (Addr×Obj)} {σ:St} {H:Hp} {s s':Shared}
theorem Inv.env0(I:Inv X pins σ H s):Env0 X.prog X.w X.K X.mg X.base X.A X.stack s H :=
 ⟨I.ok.frames,I.ok.gd,I.ok.mod,I.bs,Nat.le_trans I.ok.bsz I.sz,I.stack,I.stkFree,I.hok,I.bare⟩
theorem Inv.after{Q:VK}{u:Value}(I:Inv X pins σ H s)(h:CE X.stack X.prog X.w H s Q u s'):EP X pins σ Q u s':=by
 obtain ⟨v,H',os,bare,un,hok,r,q⟩:=h
 obtain ⟨hh,g,d,t,os'⟩:=s'
 obtain rfl:os'=s.os:=os
 exact ⟨v,H',I.call (h':=hh) (g':=g) (d':=d) (t':=t) (ch:=[]) un hok bare (fun b z=>absurd z (by simp)),r,q⟩
end
def tCall(sp:Sp)(dvs:List V)(E:XK)(t:TA):TE:=fun σ H Q=>t σ H fun vs H1=>sp (vs++dvs) H1 Q E
def Binds(K:PySem.W.Frag)(fd:FuncData)(ps:List Str)(ds:List Value):Prop :=
 ∀ (s:Shared) (us:List Value),K.In s.heap->(us++ds).length=ps.length->BindsTo s fd ⟨us,[]⟩ (ps.zip (us++ds))
theorem Binds.all{K:PySem.W.Frag}{fd:FuncData}{ps:List Str}(h:∀ us:List Value,us.length=ps.length->bindArgs fd ⟨us,[]⟩=pure (ps.zip us)):Binds K fd ps []:=fun s us _ hl=>by
 rw [List.append_nil] at hl ⊢
 exact .of_eq (h us hl)
def Passes(CX:CXT)(X:Cx)(E:XK):Prop:=∀ (pins:List (Addr×Obj)) (σ:St) (H:Hp) (s:Shared) (e:Value) (s':Shared),Inv X pins σ H s->CX X.stack H s E e s'->X.xe e s'
section
variable {X:Cx} {CX:CXT} {k:Nat} {f C:Addr} {fd:FuncData} {ps:List Str} {sp:Sp} {dvs:List V} {ds:List Value} {E:XK} {x m:Str} {p pos apos:Pos} {e o:Expr} {es:List Expr} {ta:TE} {t:TA}
theorem run_fn{pins:List (Addr×Obj)}{σ:St}{H:Hp}{s:Shared}{Q:VK}{us:List Value}{vs:List V}(F:FnOk X.prog X.w X.K X.mg X.base CX k f fd ps sp)(hr:Room k X.A)(hb:Binds X.K fd ps ds)(hd:Vals dvs ds)(hx:Passes CX X E)
  (I:Inv X pins σ H s) (r:Vals vs us) (h:sp (vs++dvs) H Q E):wpAny (model X.prog X.w) X.A (call (.ref f) us) (EP X pins σ Q) X.xe s:=by
 have r2:Vals (vs++dvs) (us++ds):=r.append hd
 have hl:(us++ds).length=ps.length:=by rw [<-r2.length];exact F.len _ _ _ _ h
 refine wpAny_call (codeAny_mono (F.run X.A X.stack s H ⟨us,[]⟩ (us++ds) (vs++dvs) Q E hr I.env0 (hb s us I.kIn hl) r2 h) fun r s' hq=>?_)
 cases r with
 | error e=>exact hx pins σ H s e s' I hq
 | ok fl =>
  cases fl with
  | ret u=>exact I.after hq
  | next=>exact False.elim hq
  | brk=>exact False.elim hq
  | cont=>exact False.elim hq
theorem z_k(F:FnOk X.prog X.w X.K X.mg X.base CX k f fd ps sp)(hr:Room k X.A)(hg:Gl X x)(hm:X.mg x=some (.ref f))(hk:PySem.W.keepIn X.K (.ref f)=true)(hb:Binds X.K fd ps ds)(hd:Vals dvs ds)(hx:Passes CX X E)
  (ha:PA X (e::es) t) (hdb:(x == ("__debug__" : Str))=false:=by decide) (he:starEach (e::es) X.env=(false,eval e X.env)::starEach es X.env:=by rfl) (hpl:(backTo pos (starEach es X.env)).any (·.1)=false:=by rfl) :
  PE X (.Call (.Name x p) (e::es) [] pos) (tCall sp dvs E t):=by
 intro pins s σ H Q I h
 refine wpAny_Call_Name_kw (ld_glob I hg hm ?_ hdb)
 refine PySem.W.callWith_K (h₀:=X.base) I.ok.mod.kin hk (thn (ha pos pins s σ H _ I h) fun us s1 ⟨vs,H1,I1,r,q⟩=>⟨I1.kIn,?_⟩) he hpl
 exact run_fn F hr hb hd hx I1 r q
end
structure FnScope(N P:List Str)(sc:Scope):Prop where
 kind:sc.kind = .function
 co:sc.isCoroutine=false
 gen:sc.isGenerator=false
 nd:N.Nodup
 pre:N.take P.length=P
 par:∀ x∈P,sc.names.lookup x=some .local\/sc.names.lookup x=some .cell
 nofree:∀ y∈sc.names,y.2 ≠ .free
theorem bindL_out{kindOf:Str->Option NameKind}{x:Str}:∀ {binds:List (Str×Value)} {m:Str->Option Value},(∀ v,(x,v)∉binds)->bindL kindOf binds m x=m x
 | [],_,_=>rfl
 | (n,v)::r,m,h=>by
  unfold bindL
  rw [bindL_out fun w hw=>h w (List.mem_cons_of_mem _ hw)]
  split
  ·have:x≠n:=by rintro rfl;exact h v List.mem_cons_self
   simp [this]
  ·rfl
theorem bindC_out{kindOf:Str->Option NameKind}{x:Str}:∀ {binds:List (Str×Value)} {m:Str->Option Value},(∀ v,(x,v)∉binds)->bindC kindOf binds m x=m x
 | [],_,_=>rfl
 | (n,v)::r,m,h=>by
  unfold bindC
  rw [bindC_out fun w hw=>h w (List.mem_cons_of_mem _ hw)]
  split
  ·rfl
  ·have:x≠n:=by rintro rfl;exact h v List.mem_cons_self
   simp [this]
theorem bindL_get{kindOf:Str->Option NameKind}{x:Str}{v:Value}:∀ {P:List Str} {vs:List Value} {i:Nat} {m:Str->Option Value},P.Nodup->P[i]? = some x->vs[i]? = some v->kindOf x=some .local ->
  bindL kindOf (P.zip vs) m x=some v
 | [],_,_,_,_,h,_,_=>by simp at h
 | _::_,[],_,_,_,_,h,_=>by simp at h
 | p::P,w::vs,0,m,nd,h1,h2,hk=>by
  simp at h1 h2;subst h1;subst h2
  show bindL kindOf ((p,w)::P.zip vs) m p=_
  unfold bindL
  rw [bindL_out fun v hv=>(List.nodup_cons.mp nd).1 (List.of_mem_zip hv).1,if_pos hk]
  simp
 | p::P,w::vs,i+1,m,nd,h1,h2,hk=>by
  show bindL kindOf ((p,w)::P.zip vs) m x=_
  unfold bindL
  exact bindL_get (i:=i) (List.nodup_cons.mp nd).2 (by simpa using h1) (by simpa using h2) hk
theorem bindC_get{kindOf:Str->Option NameKind}{x:Str}{v:Value}:∀ {P:List Str} {vs:List Value} {i:Nat} {m:Str->Option Value},P.Nodup->P[i]? = some x->vs[i]? = some v->kindOf x≠some .local ->
  bindC kindOf (P.zip vs) m x=some v
 | [],_,_,_,_,h,_,_=>by simp at h
 | _::_,[],_,_,_,_,h,_=>by simp at h
 | p::P,w::vs,0,m,nd,h1,h2,hk=>by
  simp at h1 h2;subst h1;subst h2
  show bindC kindOf ((p,w)::P.zip vs) m p=_
  unfold bindC
  rw [bindC_out fun v hv=>(List.nodup_cons.mp nd).1 (List.of_mem_zip hv).1,if_neg hk]
  simp
 | p::P,w::vs,i+1,m,nd,h1,h2,hk=>by
  show bindC kindOf ((p,w)::P.zip vs) m x=_
  unfold bindC
  exact bindC_get (i:=i) (List.nodup_cons.mp nd).2 (by simpa using h1) (by simpa using h2) hk
def start(N:List Str)(vs:List V):St:=vs.map some++List.replicate (N.length-vs.length) none
def cxOf(CX:CXT)(P:Program)(w:World)(K:PySem.W.Frag)(mg:Str->Option Value)(base:Heap)(N:List Str)(qual:Str)(scope:Scope)(f:Addr)(cd:Value)(A:Around)(outer:List Env)(s:Shared)(H:Hp)(E:XK):Cx where
 prog:=P
 w:=w
 K:=K
 mg:=mg
 base:=base
 A:=A.deeper (envOfC qual scope s.heap.objs.size f cd)
 N:=N
 s₀:=s
 H₀:=H
 env:=envOfC qual scope s.heap.objs.size f cd
 outer:=outer
 stack:=envOfC qual scope s.heap.objs.size f cd::outer
 ex:=[]
 calm:=true
 fn:=fun _=>true
 pn:=[]
 xe:=fun e s'=>wpAny (model P w) (A.deeper (envOfC qual scope s.heap.objs.size f cd)) (leaving (envOfC qual scope s.heap.objs.size f cd) e) (fun _ s''=>CX outer H s E e s'') (fun e' s''=>CX outer H s E e' s'') s'
theorem cell_has{sc:Scope}{n:Nat}{x:Str}(h:sc.names.lookup x=some .cell):∃ c,(cellsFrom n sc.names []).lookup x=some c:=by
 have q:=PySem.W.cellsFrom_some sc.names n [] (.inl h)
 exact Option.isSome_iff_exists.mp q
theorem inv_start{CX:CXT}{P:Program}{w:World}{K:PySem.W.Frag}{mg:Str->Option Value}{base:Heap}{N ps:List Str}{qual:Str}{scope:Scope}{f:Addr}{cd:Value}{A:Around}{outer:List Env}{s s1:Shared}{H:Hp}{E:XK}{us:List Value}{vs:List V}
  (S:FnScope N ps scope) (hd:A.handled=none) (e0:Env0 P w K mg base A outer s H) (hl:vs.length=ps.length) (r:Vals vs us)
  (x:InCallC s s.heap.objs.size (bindL (envOfC qual scope s.heap.objs.size f cd).kindOf (ps.zip us) fun _=>none) (cellsFrom (s.heap.objs.size+1) scope.names []) (bindC (envOfC qual scope s.heap.objs.size f cd).kindOf (ps.zip us) fun _=>none) s1) :
  Inv (cxOf CX P w K mg base N qual scope f cd A outer s H E) [] (start N vs) H s1:=by
 have hpl:ps.length<=N.length:=by have:=congrArg List.length S.pre;rw [List.length_take] at this;lia
 obtain ⟨h1,tk,rfl,hk⟩:=x.done
 have noA:∀ b:Addr,b∉(cxOf CX P w K mg base N qual scope f cd A outer s H E).ex:=fun b z=>absurd (show b∈([]:List Addr) from z) (by simp)
 refine ⟨⟨e0.mod,S.kind,rfl,rfl,Nat.le_refl _,fun y z c h1 h2=>?_,fun y hy=>?_,fun y c _ h=>?_,fun _=>hd,Around.frames_deeper e0.frames,e0.gd,.inr ⟨rfl,rfl⟩,fun b z=>absurd z (noA b),e0.bs,e0.bsz,fun b _ _=>noA b,fun b z=>absurd z (noA b),e0.funs,e0.frf⟩,
  rfl,e0.bare,Un.kept hk,⟨_,x.toInCall.ns,fun i y v h1 h2 h3=>?_⟩,fun y c h=>⟨_,x.cell y c h⟩,e0.hok.fresh (Nat.le_refl _),fun y c h=>?_,fun p hp=>absurd (show p∈([]:List (Addr×Obj)) from hp) (by simp),e0.hok.kept hk,?_⟩
 ·exact name_of_addr x.apart (PySem.mem_of_lookup h1) (PySem.mem_of_lookup h2)
 ·have hy:scope.names.lookup y=some .cell\/scope.names.lookup y=some .free:=hy
  rcases hy with hy | hy
  ·exact cell_has hy
  ·exact absurd rfl (S.nofree _ (PySem.mem_of_lookup hy))
 ·exact Nat.le_of_lt (x.above y c (PySem.mem_of_lookup h))
 ·have hi:i<vs.length:=by
   unfold start at h2
   by_cases hi:i<vs.length
   ·exact hi
   ·rw [List.getElem?_append_right (by simpa using hi)] at h2
    rw [List.getElem?_replicate] at h2
    split at h2<;>cases h2
  have ha:vs[i]? = some v:=by
   unfold start at h2
   rw [List.getElem?_append_left (by simpa using hi),List.getElem?_map] at h2
   cases e:vs[i]? with
   | none=>rw [e] at h2;cases h2
   | some a=>rw [e] at h2;cases h2;rfl
  obtain ⟨u,hu,rv⟩:=r.get ha
  have hp:ps[i]? = some y:=by
   rw [<-S.pre,List.getElem?_take_of_lt (by lia)];exact h1
  have ndP:ps.Nodup:=by rw [<-S.pre];exact S.nd.sublist (List.take_sublist _ _)
  refine ⟨u,rv,?_⟩
  rcases S.par y (List.mem_of_getElem? hp) with k | k
  ·exact .inl ⟨k,bindL_get ndP hp hu k⟩
  ·obtain ⟨c,e⟩:=cell_has (n:=s.heap.objs.size+1) k
   refine .inr ⟨.inl k,c,e,?_⟩
   have q:=x.cell y c e
   rw [bindC_get ndP hp hu (by show scope.names.lookup y≠_;rw [k];decide)] at q
   exact q
 ·exact e0.hok.fresh (Nat.le_of_lt (x.above y c (PySem.mem_of_lookup h)))
 ·unfold start
  show _=N.length
  rw [List.length_append,List.length_map,List.length_replicate]
  lia
theorem fn_of{CX:CXT}{P:Program}{w:World}{K:PySem.W.Frag}{mg:Str->Option Value}{base:Heap}{k:Nat}{f:Addr}{name qual:Str}{params:Arguments}{body:List Stmt}{scope:Scope}{dV kV doc pm cdv ct oc:Value}{an od:Option Addr}
  {osl:Array (Option Value)} {N ps:List Str} {sp:Sp} (lk:K.lookup f=some ⟨oc,od,.func (PySem.W.fnOf name qual params body scope dV kV doc pm an cdv ct),osl⟩) (hcd:PySem.W.codeIn K cdv qual=true) (S:FnScope N ps scope)
  (len:∀ vs H Q E,sp vs H Q E->vs.length=ps.length)
  (hbody:∀ (A:Around) (outer:List Env) (s:Shared) (H:Hp) (vs:List V) (Q:VK) (E:XK),Room k (A.deeper (envOfC qual scope s.heap.objs.size f cdv))->sp vs H Q E ->
   ∃ t,PSs (cxOf CX P w K mg base N qual scope f cdv A outer s H E) body t/\t { nx:=fun _ H'=>Q .non H',rt:=Q } (start N vs) H) :
  FnOk P w K mg base CX (k+1) f (PySem.W.fnOf name qual params body scope dV kV doc pm an cdv ct) ps sp:=by
 refine ⟨len,fun A outer s H args us vs Q E hr e0 hb r hsp=>?_⟩
 have hl:=len _ _ _ _ hsp
 have KX:K.In s.heap:=e0.mod.kin.keeps fun b o e=>(e0.bs b o e).1
 have lim:s.heap.NoLimit:=e0.mod.nolimit.keeps fun b o e=>(e0.bs b o e).1
 have hkind:∀ y∈ps.zip us,scope.names.lookup y.1=some .local\/(scope.names.lookup y.1=some .cell/\((cellsFrom (s.heap.objs.size+1) scope.names []).lookup y.1).isSome=true):=fun ⟨n,v⟩ hy=>by
  rcases S.par n (List.of_mem_zip hy).1 with q | q
  ·exact .inl q
  ·exact .inr ⟨q,PySem.W.cellsFrom_some _ _ _ (.inl q)⟩
 refine codeAny_call_function hr.depth (KX _ _ lk) rfl S.co S.gen rfl (PySem.W.codeRec_of KX hcd) (hb _ _ _ _ ?_)
 refine wpAny_newFunctionEnv_cells S.kind hkind fun env he s1 x=>?_
 subst he
 refine ⟨lim.keeps x.toInCall.keep,codeAny_func ?_⟩
 obtain ⟨t,ht,hq⟩:=hbody A outer s H vs Q E (hr.deeper _) hsp
 have I:Inv (cxOf CX P w K mg base N qual scope f cdv A outer s H E) [] (start N vs) H s1:=inv_start S hr.hd e0 hl r x
 refine wpAny_mono (ht [] s1 (start N vs) H _ I hq) (fun fl s' hs=>?_) fun e s' hs=>hs
 have fin:∀ {σ':St} {H':Hp} {v:V} {u:Value},Inv (cxOf CX P w K mg base N qual scope f cdv A outer s H E) [] σ' H' s'->RelV v u->Q v H'->CE outer P w H s Q u s' :=
  fun {σ' H' v u} J rv q=>⟨v,H',J.os,J.bare,J.base,J.hok,rv,q⟩
 cases fl with
 | ret u =>
  obtain ⟨v,σ',H',J,rv,q⟩:=hs
  exact fin J rv q
 | next =>
  obtain ⟨σ',H',J,q⟩:=hs
  exact fin (v:=V.non) (u:=Value.none) J rfl q
 | brk =>
  obtain ⟨_,_,_,q⟩:=hs
  exact False.elim q
 | cont =>
  obtain ⟨_,_,_,q⟩:=hs
  exact False.elim q
open PySem PySem.Spec PyProof.Rows
section
variable {X:Cx} {x:Str} {p pos:Pos} {e:Expr} {es:List Expr} {t:TA} {id T:String} {r:List V->Hp->VK->Prop}
def tCB(r:List V->Hp->VK->Prop)(t:TA):TE:=fun σ H Q=>t σ H fun vs H1=>r vs H1 Q
theorem z_p(hc:CallR X (.builtin id) r)(hg:Gl X x)(hm:X.mg x=none)(hv:bootBuiltins x=some (.builtin id))(ha:PA X (e::es) t)(hn:x ≠ "__name__" := by decide)(hdb:(x == ("__debug__" : Str))=false:=by decide)
  (he:starEach (e::es) X.env=(false,eval e X.env)::starEach es X.env:=by rfl) (hpl:(backTo pos (starEach es X.env)).any (·.1)=false:=by rfl):PE X (.Call (.Name x p) (e::es) [] pos) (tCB r t):=by
 intro pins s σ H Q I h
 refine wpAny_Call_Name_kw (ld_blt I hg hm hv ?_ hn hdb)
 exact PyProof.Rows.callWith_builtin1 (thn (ha pos pins s σ H _ I h) fun us s1 ⟨vs,H1,I1,r1,q1⟩=>hc pins s1 σ H1 vs us Q I1 r1 q1) he hpl
theorem y_g(hc:CallR X (.type T) r)(hg:Gl X x)(hm:X.mg x=none)(hv:bootBuiltins x=some (.type T))(ha:PA X (e::es) t)(hn:x ≠ "__name__" := by decide)(hdb:(x == ("__debug__" : Str))=false:=by decide)
  (he:starEach (e::es) X.env=(false,eval e X.env)::starEach es X.env:=by rfl) (hpl:(backTo pos (starEach es X.env)).any (·.1)=false:=by rfl):PE X (.Call (.Name x p) (e::es) [] pos) (tCB r t):=by
 intro pins s σ H Q I h
 refine wpAny_Call_Name_kw (ld_blt I hg hm hv ?_ hn hdb)
 exact PyProof.Rows.callWith_type1 (thn (ha pos pins s σ H _ I h) fun us s1 ⟨vs,H1,I1,r1,q1⟩=>hc pins s1 σ H1 vs us Q I1 r1 q1) he hpl
end
end L2
namespace HT
open PySem PyProof.Rows
section
open PySem.SeqAt
open PySem.AutoSeq1 (wpAny_loadPart')
open PySem.MeetsSeq PySem.MeetsSeq2 PySem.MeetsSeq3
end
section
variable {prog:Program} {w:World} {A:Around} {E:Value->Shared->Prop} {s:Shared}
theorem cat_tup{t b:Addr}{vs ws:List Value}{Q:Value->Shared->Prop}(ht:IsTup s.heap t vs.toArray)(hb:IsTup s.heap b ws.toArray)(hv:vs≠[])
  (h1:ws=[]->Q (.ref t) s) (h2:ws≠[]->Q (.ref s.heap.objs.size) { s with heap:=s.heap.push { cls:=.type "tuple",data:=.seq (vs++ws).toArray } })
  (hsz:vs.length+ws.length<=sizeLine):wpAny (model prog w) A (binaryOp .Add (.ref t) (.ref b)) Q E s:=by
 obtain ⟨⟨cls,dd,data,sl⟩,ho,hc,n,hd⟩:=id ht
 obtain ⟨⟨cls2,dd2,data2,sl2⟩,ho2,hc2,n2,hd2⟩:=id hb
 simp only at hc hd hc2 hd2
 subst hc hd hc2 hd2
 have e:vs.toArray++ws.toArray=(vs++ws).toArray:=by simp
 by_cases hw:ws=[]
 ·exact concat_meets ⟨_,ho,rfl⟩ ⟨_,ho2,rfl⟩ noFill_tuple_add seq_tuple_add PySem.F.slot_tuple_add PySem.F.entry_tuple_add (PySem.F.args_tuple_add_2 _ _)
   (tuple_addW1 t b vs.toArray ws.toArray n n2 dd dd2 sl sl2 (by simpa using hv) (by simp [hw])) ⟨ho,ho2,h1 hw⟩
 ·refine concat_meets ⟨_,ho,rfl⟩ ⟨_,ho2,rfl⟩ noFill_tuple_add seq_tuple_add PySem.F.slot_tuple_add PySem.F.entry_tuple_add (PySem.F.args_tuple_add_2 _ _)
   (tuple_addW2 t b vs.toArray ws.toArray n n2 dd dd2 sl sl2 (by simpa using hv) (by simpa using hw) (by rw [List.size_toArray,List.size_toArray];exact hsz)) ⟨ho,ho2,?_⟩
  rw [e]
  exact h2 hw
def sIx(n d:Nat):Option Int->Nat
 | none=>d
 | some v=>if v<0 then (v+(n:Int)).toNat else min v.toNat n
theorem sIx_none(n d:Nat):sIx n d none=d:=rfl
theorem sIx_nat(n d k:Nat):sIx n d (some (k:Int))=min k n:=by
 show (if (k:Int)<0 then ((k:Int)+(n:Int)).toNat else min (k:Int).toNat n)=min k n
 rw [if_neg (by lia),Int.toNat_natCast]
theorem sIx_le(n d:Nat)(hd:d<=n)(o:Option Int):sIx n d o<=n:=by
 cases o with
 | none=>exact hd
 | some v =>
  show (if v<0 then (v+(n:Int)).toNat else min v.toNat n)<=n
  by_cases hv:v<0
  ·rw [if_pos hv];lia
  ·rw [if_neg hv];exact Nat.min_le_right _ _
theorem clip_eq(v:Int)(n d:Nat):(if v<0 then max (v+(n:Int)) 0 else min v (n:Int))=((sIx n d (some v):Nat):Int):=by
 show (if v<0 then max (v+(n:Int)) 0 else min v (n:Int))=(((if v<0 then (v+(n:Int)).toNat else min v.toNat n):Nat):Int)
 by_cases hv:v<0
 ·simp only [if_pos hv];lia
 ·simp only [if_neg hv];lia
theorem adjust_gen(lo hi:Option Int)(n:Nat):Builtin.Slice.sliceAdjust lo hi 1 (n:Int)=(((sIx n 0 lo:Nat):Int),((sIx n n hi:Nat):Int)):=by
 have h1:¬((1:Int)<0):=by lia
 unfold Builtin.Slice.sliceAdjust
 simp only [h1,if_false]
 refine Prod.ext ?_ ?_
 ·cases lo with
  | none=>rfl
  | some v=>exact clip_eq v n 0
 ·cases hi with
  | none=>rfl
  | some v=>exact clip_eq v n n
theorem places_gen(i j:Nat):Builtin.Slice.slicePlaces (i:Int) (j:Int) 1=j-i:=by
 unfold Builtin.Slice.slicePlaces
 have h1:(1:Int) > 0:=by lia
 simp only [h1,if_true,Int.ediv_one]
 split<;>lia
theorem slicePart_{v:Value}{o:Option Int}{Q:Option Int->Shared->Prop}(p:IsPart v o)(h:Q o s):wpAny (model prog w) A (Builtin.Slice.slicePartIndex v) Q E s:=by
 cases p with
 | none=>exact slicePart_none h
 | int i t=>exact slicePart_int h
theorem sliceApplied_gen{sl:Addr}{vl vu:Value}{lo hi:Option Int}{n:Nat}{Q:Int×Int×Nat->Shared->Prop}(hs:s.heap.IsSliceOf sl vl vu .none)(pl:IsPart vl lo)(pu:IsPart vu hi)
  (h:Q (((sIx n 0 lo:Nat):Int),1,sIx n n hi-sIx n 0 lo) s):wpAny (model prog w) A (Builtin.Slice.sliceApplied (.ref sl) (pure (n:Int))) Q E s:=by
 obtain ⟨os,hos,hcs,hds⟩:=id hs
 unfold Builtin.Slice.sliceApplied Builtin.Slice.sliceFields
 refine wpAny_bind (wpAny_bind (wpAny_field hos hds (x:=vl) rfl (wpAny_bind (wpAny_field hos hds (x:=vu) rfl (wpAny_bind (wpAny_field hos hds (x:=.none) rfl (wpAny_pure ?_)))))))
 refine wpAny_bind (slicePart_none ?_)
 show wpAny _ _ (if ((1:Int) == 0)=true then _ else _) _ _ s
 rw [if_neg (by decide)]
 refine wpAny_bind (slicePart_ pl (wpAny_bind (slicePart_ pu (wpAny_bind (wpAny_pure ?_)))))
 show wpAny _ _ (match Builtin.Slice.sliceAdjust lo hi 1 (n:Int) with | (lo,hi)=>pure (lo,(1:Int),Builtin.Slice.slicePlaces lo hi 1)) _ _ s
 rw [adjust_gen lo hi n]
 show wpAny _ _ (pure (((sIx n 0 lo:Nat):Int),(1:Int),Builtin.Slice.slicePlaces ((sIx n 0 lo:Nat):Int) ((sIx n n hi:Nat):Int) 1)) _ _ s
 rw [places_gen]
 exact wpAny_pure h
theorem pick_gen(xs:Array Value)(i k:Nat):((List.range k).filterMap fun (m:Nat)=>xs[((i:Int)+(m:Int)*1).toNat]?).toArray=((xs.toList.drop i).take k).toArray:=by
 have e:(fun (m:Nat)=>xs[((i:Int)+(m:Int)*1).toNat]?)=fun m=>xs[i+m]? := by
  funext m
  have:((i:Int)+(m:Int)*1).toNat=i+m:=by lia
  rw [this]
 rw [e]
 have:=pick_run xs i k
 rw [List.filterMap_map] at this
 have e2:((fun x=>xs[x]?) ∘ fun x=>i+x)=fun m=>xs[i+m]? := rfl
 rw [e2] at this
 rw [this]
theorem getItem_tuple_cut{t sl:Addr}{items:Array Value}{vl vu:Value}{lo hi:Option Int}{Q:Value->Shared->Prop}(ht:IsTup s.heap t items)(hs:s.heap.IsSliceOf sl vl vu .none)(pl:IsPart vl lo)(pu:IsPart vu hi)
  (hw:¬(sIx items.size 0 lo=0/\sIx items.size items.size hi=items.size))
  (h:Q (.ref s.heap.objs.size) { s with heap:=s.heap.push { cls:=.type "tuple",data:=.seq ((items.toList.drop (sIx items.size 0 lo)).take (sIx items.size items.size hi-sIx items.size 0 lo)).toArray } })
  (hsz:items.size<=sizeLine):wpAny (model prog w) A (getItem (.ref t) (.ref sl)) Q E s:=by
 have htake:sizeOk (.seq ((items.toList.drop (sIx items.size 0 lo)).take (sIx items.size items.size hi-sIx items.size 0 lo)).toArray):=by
  show ((items.toList.drop (sIx items.size 0 lo)).take (sIx items.size items.size hi-sIx items.size 0 lo)).toArray.size<=sizeLine
  rw [List.size_toArray,List.length_take,List.length_drop,Array.length_toList]
  lia
 have hj:sIx items.size items.size hi<=items.size:=sIx_le _ _ (Nat.le_refl _) hi
 obtain ⟨os,hos,hcs,hds⟩:=id hs
 have hTs:s.TypeIs (.ref sl) "slice" := ⟨os,hos,hcs⟩
 unfold getItem
 try with_reducible refine wpAny_holding ?_
 first | refine wpAny_bind (wpAny_pure ?_) | skip
 refine wpAny_bind (wpAny_sequenceKey ht.typeIs (by decide) ?_)
 refine wpAny_bind (wpAny_callSpecial?_slot (name:=Str.ofString "__getitem__") ht.typeIs PyProof.Rows.slot_tuple_getitem
  (wpAny_call_entry PyProof.Rows.slot_tuple_getitem ht.typeIs entry_tuple_getitem ?_ (args_tuple_getitem _ _)))
 show wpAny _ _ (Builtin.Tuple.tupleItemsOf (.ref t) >>= _) _ _ s
 refine wpAny_bind (tupleItemsOf_ ht ?_)
 refine wpAny_bind (wpAny_typeOf hTs ?_)
 rw [if_pos (by decide)]
 refine wpAny_bind (sliceApplied_gen hs pl pu ?_)
 have hno:¬((((sIx items.size 0 lo:Nat):Int) == 0&&(1:Int) == 1&&(sIx items.size items.size hi-sIx items.size 0 lo) == items.size)=true):=by
  intro q
  rw [Bool.and_eq_true,Bool.and_eq_true] at q
  have q1:((sIx items.size 0 lo:Nat):Int)=0:=eq_of_beq q.1.1
  have q2:sIx items.size items.size hi-sIx items.size 0 lo=items.size:=eq_of_beq q.2
  exact hw ⟨by lia,by lia⟩
 show wpAny _ _ (if (((sIx items.size 0 lo:Nat):Int) == 0&&(1:Int) == 1&&(sIx items.size items.size hi-sIx items.size 0 lo) == items.size)=true then _ else _) _ _ s
 rw [if_neg hno,pick_gen]
 first
  | exact wpAny_bind (m:=Builtin.Tuple.tupleExact _) (wpAny_newObj_type (wpAny_pure ⟨_,rfl,wpAny_pure h⟩) htake)
  | exact wpAny_bind (m:=Builtin.Tuple.tupleExact _) (wpAny_newObj_type (wpAny_bind (wpAny_pure (wpAny_pure ⟨_,rfl,wpAny_pure h⟩))) htake)
  | exact wpAny_bind (wpAny_bind (m:=Builtin.Tuple.tupleExact _) (wpAny_newObj_type (wpAny_pure (wpAny_pure ⟨_,rfl,wpAny_pure h⟩)) htake))
  | exact wpAny_bind (wpAny_bind (m:=Builtin.Tuple.tupleExact _) (wpAny_newObj_type (wpAny_pure ⟨_,rfl,wpAny_pure h⟩) htake))
end
end HT
namespace L2
open PySem PySem.Spec PyProof.Rows
abbrev TO:=St->Hp->(Option Int->Hp->Prop)->Prop
def PO(X:Cx)(e:Option Expr)(t:TO):Prop :=
 ∀ (pins:List (Addr×Obj)) (s:Shared) (σ:St) (H:Hp) (Q:Option Int->Hp->Prop),Inv X pins σ H s->t σ H Q ->
  wpAny (model X.prog X.w) X.A (evalPart e X.env) (fun u s'=>∃ o H',Inv X pins σ H' s'/\IsPart u o/\Q o H') X.xe s
def tNoPart:TO:=fun _ H Q=>Q none H
def tPart(t:TE):TO:=fun σ H Q=>t σ H fun x H1=>∃ i,x = .int i/\Q (some i) H1
theorem intsAre_of{ns:List Int}:∀ {us:List Value},Vals (ns.map V.int) us->IntsAre us ns:=by
 induction ns with
 | nil=>intro us r;rw [List.map_nil] at r;cases r;exact .nil
 | cons n ns ih =>
  intro us r
  rw [List.map_cons] at r
  cases r with
  | cons r1 r2 =>
   obtain ⟨t,e⟩:=r1
   subst e
   exact .cons n t (ih r2)
section
variable {X:Cx} {e:Expr} {te:TE} {lo hi:Option Expr} {tl th:TO} {pos p2:Pos}
theorem po_none:PO X none tNoPart:=by
 intro pins s σ H Q I h
 rw [evalPart_none]
 exact wpAny_pure ⟨none,H,I,.none,h⟩
theorem po_some(h:PE X e te):PO X (some e) (tPart te):=by
 intro pins s σ H Q I hw
 rw [evalPart_some]
 refine thn (h pins s σ H _ I hw) fun u s1 ⟨x,H1,I1,r1,q1⟩=>?_
 obtain ⟨i,rfl,q⟩:=q1
 obtain ⟨t,rfl⟩:=r1
 exact ⟨some i,H1,I1,.int i t,q⟩
def SlR(X:Cx)(r:V->Option Int->Option Int->Hp->VK->Prop):Prop :=
 ∀ (pins:List (Addr×Obj)) (s:Shared) (σ:St) (H:Hp) (x:V) (v vl vu:Value) (lo hi:Option Int) (sl:Addr) (Q:VK),Inv X pins σ H s->RelV x v->s.heap.IsSliceOf sl vl vu .none->IsPart vl lo->IsPart vu hi->r x lo hi H Q ->
  ∃ T id,typeLookup (.type T) "__getitem__" = pure (some (.builtin id))/\s.TypeIs v T/\wpAny (model X.prog X.w) X.A (getItem v (.ref sl)) (EP X pins σ Q) X.xe s
def tSl(r:V->Option Int->Option Int->Hp->VK->Prop)(te:TE)(tl th:TO):TE:=fun σ H Q=>te σ H fun x H1=>tl σ H1 fun l H2=>th σ H2 fun u H3=>r x l u H3 Q
theorem pe_slice{r:V->Option Int->Option Int->Hp->VK->Prop}(hr:SlR X r)(he:PE X e te)(hl:PO X lo tl)(hu:PO X hi th):PE X (.Subscript e (.Slice lo hi none p2) pos) (tSl r te tl th):=by
 intro pins s σ H Q I h
 refine Subscript_ (thn (he pins s σ H _ I h) fun v s1 ⟨x,H1,I1,r1,q1⟩=>?_)
 refine wpAny_Slice (thn (hl pins s1 σ H1 _ I1 q1) fun vl s2 ⟨l,H2,I2,pl,q2⟩=>thn (hu pins s2 σ H2 _ I2 q2) fun vu s3 ⟨u,H3,I3,pu,q3⟩=>?_)
 rw [evalPart_none]
 refine wpAny_pure ?_
 have I4:Inv X pins σ H3 { s3 with heap:=s3.heap.push { cls:=.type "slice",data:=.fields #[vl,vu,.none] } }:=I3.kept (t':=s3.toks) fun b ob q=>Heap.get?_push_of_some _ q
 obtain ⟨T,id,hT,ht,hg⟩:=hr pins { s3 with heap:=s3.heap.push { cls:=.type "slice",data:=.fields #[vl,vu,.none] } } σ H3 x v vl vu l u s3.heap.objs.size Q I4 r1 (Heap.IsSliceOf.new ..) pl pu q3
 show wpAny (model X.prog X.w) X.A (subscriptTail e (.Slice lo hi none p2) v (.ref s3.heap.objs.size)) (EP X pins σ Q) X.xe { s3 with heap:=s3.heap.push { cls:=.type "slice",data:=.fields #[vl,vu,.none] } }
 exact tail_any (ops:=[.ref s3.heap.objs.size,v]) ht hT hg (by with_unfolding_all rfl)
def cutV(xs:List V)(lo hi:Option Int):List V:=(xs.drop (HT.sIx xs.length 0 lo)).take (HT.sIx xs.length xs.length hi-HT.sIx xs.length 0 lo)
theorem cutV_length(xs:List V)(lo hi:Option Int):(cutV xs lo hi).length<=xs.length:=by
 unfold cutV
 rw [List.length_take,List.length_drop]
 lia
def rSlT(K:PySem.W.Frag):V->Option Int->Option Int->Hp->VK->Prop:=fun x lo hi H Q=>∃ a xs,x = .ref a/\SqT K H a xs /\
 ¬(HT.sIx xs.length 0 lo=0/\HT.sIx xs.length xs.length hi=xs.length)/\∀ p,H p=none->Q (.ref p) (upd H p (.tup (cutV xs lo hi)))
theorem sl_tup:SlR X (rSlT X.K):=by
 intro pins s σ H x v vl vu lo hi sl Q I rx hs pl pu h
 obtain ⟨a,xs,rfl,hx,hw,q⟩:=h
 cases rx
 obtain ⟨its,r,ht,hz⟩:=I.tuple hx
 have hlen:its.toArray.size=xs.length:=by rw [List.size_toArray];exact r.length.symm
 refine ⟨"tuple",_,PyProof.Rows.slot_tuple_getitem.lookup,ht.typeIs,?_⟩
 refine HT.getItem_tuple_cut ht hs pl pu (by rw [hlen];exact hw) ?_ (by rw [hlen];exact hz)
 rw [hlen]
 refine ⟨.ref s.heap.objs.size,_,I.laid (t':=s.toks) (o:=.tup (cutV xs lo hi)) (fun b ob q=>Heap.get?_push_of_some _ q) (Nat.le_refl _) ?_,rfl,q _ (I.hok.fresh (Nat.le_refl _))⟩
 exact ⟨Nat.le_trans (cutV_length xs lo hi) hz,_,(r.drop (HT.sIx xs.length 0 lo)).take (HT.sIx xs.length xs.length hi-HT.sIx xs.length 0 lo),IsTup.new _ _⟩
def rCatT(K:PySem.W.Frag):R2:=fun x y H Q=>∃ a b xs ys,x = .ref a/\y = .ref b/\SqT K H a xs/\SqT K H b ys/\xs≠[]/\xs.length+ys.length<=sizeLine /\
 (ys=[]->Q (.ref a) H)/\(ys≠[]->∀ p,H p=none->Q (.ref p) (upd H p (.tup (xs++ys))))
theorem Vals.nil_iff{xs:List V}{us:List Value}(r:Vals xs us):us=[]↔xs=[]:=by
 cases r with
 | nil=>simp
 | cons _ _=>simp
theorem op_catT:OpR X (binaryOp .Add) (rCatT X.K):=by
 intro pins s σ H x y v u Q I rx ry h
 obtain ⟨a,b,xs,ys,rfl,rfl,ha,hb,hx,hz,q1,q2⟩:=h
 cases rx
 cases ry
 obtain ⟨its,r1,p1,_⟩:=I.tuple ha
 obtain ⟨its2,r2,p2,_⟩:=I.tuple hb
 refine HT.cat_tup p1 p2 (fun z=>hx (r1.nil_iff.mp z)) (fun z=>⟨.ref a,H,I,rfl,q1 (r2.nil_iff.mp z)⟩) (fun z=>?_) (by rw [<-r1.length,<-r2.length];exact hz)
 refine ⟨.ref s.heap.objs.size,_,I.laid (t':=s.toks) (o:=.tup (xs++ys)) (fun b ob q=>Heap.get?_push_of_some _ q) (Nat.le_refl _) ?_,rfl,q2 (fun w=>z (r2.nil_iff.mpr w)) _ (I.hok.fresh (Nat.le_refl _))⟩
 exact ⟨by rw [List.length_append];exact hz,_,r1.append r2,IsTup.new _ _⟩
end
open PySem PySem.Spec PyProof.Rows
def ixN(n:Nat)(i:Int):Option Nat:=if 0<=i then (if i<n then some i.toNat else none) else if -(n:Int)<=i then some (i+n).toNat else none
def atI{α:Type}(xs:List α)(i:Int):Option α:=(ixN xs.length i).bind fun j=>xs[j]?
theorem ixN_seq{n:Nat}{i:Int}{j:Nat}(h:ixN n i=some j):seqIndex? i n=some j/\j<n /\ -(n:Int)<=i/\i<n:=by
 unfold ixN at h
 by_cases h0:0<=i
 ·rw [if_pos h0] at h
  by_cases h1:i<n
  ·rw [if_pos h1] at h
   have e:i.toNat=j:=Option.some.inj h
   exact ⟨by rw [seqIndex_of h0 h1,e],by lia,by lia,h1⟩
  ·rw [if_neg h1] at h;cases h
 ·rw [if_neg h0] at h
  by_cases h1 : -(n:Int)<=i
  ·rw [if_pos h1] at h
   have e:(i+n).toNat=j:=Option.some.inj h
   exact ⟨by rw [seqIndex_neg (by lia) h1,e],by lia,h1,by lia⟩
  ·rw [if_neg h1] at h;cases h
theorem atI_get{α:Type}{xs:List α}{i:Int}{v:α}(h:atI xs i=some v):∃ j,seqIndex? i xs.length=some j/\xs[j]? = some v/\j<xs.length /\ -(xs.length:Int)<=i/\i<xs.length:=by
 unfold atI at h
 cases e:ixN xs.length i with
 | none=>rw [e] at h;cases h
 | some j =>
  rw [e] at h
  obtain ⟨h1,h2,h3,h4⟩:=ixN_seq e
  exact ⟨j,h1,h,h2,h3,h4⟩
theorem y_c{α:Type}{xs:List α}{j:Nat}{v:α}(h:xs[j]? = some v):atI xs (j:Int)=some v:=by
 have hj:j<xs.length:=(List.getElem?_eq_some_iff.mp h).1
 have e:ixN xs.length (j:Int)=some j:=by
  unfold ixN
  rw [if_pos (by lia),if_pos (by lia)];simp
 unfold atI;rw [e];exact h
theorem atI_last{α:Type}(xs:List α)(v:α):atI (xs++[v]) (-1)=some v:=by
 have hl:(xs++[v]).length=xs.length+1:=by simp
 have e:ixN (xs++[v]).length (-1)=some xs.length:=by
  unfold ixN
  rw [hl,if_neg (by decide),if_pos (by lia)]
  congr 1
  lia
 unfold atI
 rw [e]
 show (xs++[v])[xs.length]? = some v
 simp
def PlainIx(b:Expr):Prop:=∀ o i,subscripted b false o i=operate [o,i] (getItem o i)
def IxR(X:Cx)(r:R2):Prop :=
 ∀ (value slice:Expr) (pins:List (Addr×Obj)) (s:Shared) (σ:St) (H:Hp) (x y:V) (v u:Value) (Q:VK),Inv X pins σ H s->RelV x v->RelV y u->r x y H Q ->
  subscripted slice false v u=operate [v,u] (getItem v u)->wpAny (model X.prog X.w) X.A (subscriptTail value slice v u) (EP X pins σ Q) X.xe s
def MtR(X:Cx)(id:String)(r:V->List V->Hp->VK->Prop):Prop :=
 ∀ (pins:List (Addr×Obj)) (s:Shared) (σ:St) (H:Hp) (x:V) (xs:List V) (v:Value) (us:List Value) (Q:VK),Inv X pins σ H s->RelV x v->Vals xs us->r x xs H Q ->
  wpAny (model X.prog X.w) X.A (call (.builtin id) (v::us)) (EP X pins σ Q) X.xe s
section
variable {X:Cx} {a b:Expr} {ta tb:TE} {pos:Pos}
theorem z_l{r:R2}(hr:IxR X r)(ha:PE X a ta)(hb:PE X b tb)(hs:PlainIx b):PE X (.Subscript a b pos) (tOp r ta tb):=by
 intro pins s σ H Q I h
 exact Subscript_ (binT ha hb I h fun v u s2 x y H2 I2 rx ry q=>hr a b pins s2 σ H2 x y v u Q I2 rx ry q (hs _ _))
def rIxL(K:PySem.W.Frag):R2:=fun x y H Q=>∃ p xs i v,x = .ref p/\y = .int i/\SqL K H p xs/\atI xs i=some v/\Q v H
def rIxT(K:PySem.W.Frag):R2:=fun x y H Q=>∃ p xs i v,x = .ref p/\y = .int i/\SqT K H p xs/\atI xs i=some v/\Q v H
def rIxS:R2:=fun x y H Q=>∃ z i c,x = .str z/\y = .int i/\z.length<=sizeLine/\atI z.cps.toList i=some c/\Q (.str ⟨#[c]⟩) H
theorem y_p:IxR X (rIxL X.K):=by
 intro value slice pins s σ H x y v u Q I rx ry h hs
 obtain ⟨p,xs,i,z,rfl,rfl,hq,he,q⟩:=h
 cases rx
 obtain ⟨t,rfl⟩:=ry
 obtain ⟨its,r,pl,hz⟩:=I.list hq
 obtain ⟨j,h1,h2,h3,h4,h5⟩:=atI_get he
 obtain ⟨w,ew,rw'⟩:=r.get h2
 have hl:=r.length
 have hn:=line63
 have fin:EP X pins σ Q w s:=⟨z,H,I,rw',q⟩
 by_cases h0:0<=i
 ·have hj:i.toNat=j:=by
   rw [seqIndex_of h0 h5] at h1
   exact Option.some.inj h1
  exact item_listR pl.isList h0 (by lia) (by rw [hj];simpa using ew) fin hs
 ·have hj:(i+(its.toArray.size:Int)).toNat=j:=by
   rw [seqIndex_neg (by lia) h4] at h1
   rw [List.size_toArray,<-hl]
   exact Option.some.inj h1
  exact subscriptTail_builtinR (x:=w) pl.isList.typeIs slot_list_getitem.lookup
   (wpAny_getItem_list_neg (Q:=fun r s'=>r=w/\EP X pins σ Q r s') pl.isList (by lia) (by rw [List.size_toArray]<;>lia) (by lia) (by rw [hj];simpa using ew) ⟨rfl,fin⟩) hs
theorem ix_tup:IxR X (rIxT X.K):=by
 intro value slice pins s σ H x y v u Q I rx ry h hs
 obtain ⟨p,xs,i,z,rfl,rfl,hq,he,q⟩:=h
 cases rx
 obtain ⟨t,rfl⟩:=ry
 obtain ⟨its,r,pl,hz⟩:=I.tuple hq
 obtain ⟨j,h1,h2,h3,h4,h5⟩:=atI_get he
 obtain ⟨w,ew,rw'⟩:=r.get h2
 have hl:=r.length
 have hn:=line63
 have fin:EP X pins σ Q w s:=⟨z,H,I,rw',q⟩
 exact subscriptTail_builtinR (x:=w) pl.typeIs slot_tuple_getitem.lookup
  (getItem_tuple (j:=j) (Q:=fun r s'=>r=w/\EP X pins σ Q r s') pl (by lia) (by lia) (by rw [List.size_toArray,<-hl];exact h1) (by simpa using ew) ⟨rfl,fin⟩) hs
theorem ix_str:IxR X rIxS:=by
 intro value slice pins s σ H x y v u Q I rx ry h hs
 obtain ⟨z,i,c,rfl,rfl,hz,he,q⟩:=h
 obtain ⟨t,rfl⟩:=rx
 obtain ⟨t',rfl⟩:=ry
 obtain ⟨j,h1,h2,h3,h4,h5⟩:=atI_get he
 have hl:z.cps.toList.length=z.length:=by simp [Str.length]
 rw [hl] at h1 h4 h5
 have hn:=line63
 exact tail_any (typeIs_str s z t) slot_str_getitem.lookup (getItem_str (c:=c) (by
  have e1:decide (i < -(2^63:Int))=false:=decide_eq_false (by lia)
  have e2:decide (i≥2^63)=false:=decide_eq_false (by lia)
  rw [e1,e2,Bool.or_false]) (by rw [h1];simpa using h2) ⟨.str ⟨#[c]⟩,H,I.tok _,⟨_,rfl⟩,q⟩) hs
theorem mapSeq_set(its:List Value)(n j:Nat)(u:Value):Obj.mapSeq (·.setIfInBounds j u) { cls:=.type "list",data:=.seq its.toArray n }={ cls:=.type "list",data:=.seq (its.set j u).toArray n }:=by
 simp [Obj.mapSeq]
theorem Inv.lst{pins:List (Addr×Obj)}{σ:St}{H:Hp}{s:Shared}{p:Addr}{xs:List V}(I:Inv X pins σ H s)(h:H p=some (.lst xs)) :
  ∃ (its:List Value) (n:Nat),Vals xs its/\s.heap.get? p=some { cls:=.type "list",data:=.seq its.toArray n }/\xs.length<=sizeLine:=by
 obtain ⟨z,its,n,r,e⟩:=I.hok p _ h
 exact ⟨its,n,r,e,z⟩
theorem Inv.lstUpd{pins:List (Addr×Obj)}{σ:St}{H:Hp}{s:Shared}{p:Addr}{xs ys:List V}{its its':List Value}{n n':Nat}{f:Obj->Obj}(I:Inv X pins σ H s)(h:H p=some (.lst xs))
  (ho:s.heap.get? p=some { cls:=.type "list",data:=.seq its.toArray n }) (hf:f { cls:=.type "list",data:=.seq its.toArray n }={ cls:=.type "list",data:=.seq its'.toArray n' }) (r:Vals ys its') (hz:ys.length<=sizeLine) (t:Nat) :
  Inv X pins σ (upd H p (.lst ys)) { s with heap:=s.heap.update p f,toks:=t }:=by
 have e:(s.heap.update p f).get? p=some { cls:=.type "list",data:=.seq its'.toArray n' }:=by
  rw [Heap.get?_update_self f ho (by rw [hf]<;>rfl),hf]
 refine I.write (x:=p) (e:=p) (by rw [h];trivial) (.inl rfl) (fun b u hb q=>(Heap.get?_update_other _ _ (Ne.symm hb)).trans q) ⟨_,e⟩ ?_
 exact ⟨hz,its',n',r,e⟩
def rSetL:V->V->V->Hp->(Hp->Prop)->Prop:=fun o i v H Q=>∃ p xs k j,o = .ref p/\i = .int k/\H p=some (.lst xs)/\ixN xs.length k=some j/\Q (upd H p (.lst (xs.set j v)))
theorem set_list:PSet X rSetL:=by
 intro pins s σ H o i v ov iv u Q I ro ri rv h
 obtain ⟨p,xs,k,j,rfl,rfl,hp,hj,q⟩:=h
 cases ro
 obtain ⟨t,rfl⟩:=ri
 obtain ⟨its,n,r,ho,hz⟩:=I.lst hp
 obtain ⟨h1,h2,h3,h4⟩:=ixN_seq hj
 have hl:=r.length
 have hn:=line63
 have I':Inv X pins σ (upd H p (.lst (xs.set j v))) { s with heap:=s.heap.update p (Obj.mapSeq (·.setIfInBounds j u)) } :=
  I.lstUpd hp ho (mapSeq_set its n j u) (r.set rv j) (by rw [List.length_set];exact hz) s.toks
 by_cases h0:0<=k
 ·have hk:k.toNat=j:=by
   rw [seqIndex_of h0 h4] at h1
   exact Option.some.inj h1
  exact PySem.W.ki_setAt ho h0 (by lia) (by rw [List.size_toArray,<-hl];exact h4) (by rw [hk];exact ⟨_,I',q⟩)
 ·have hk:(k+(its.toArray.size:Int)).toNat=j:=by
   rw [seqIndex_neg (by lia) h3] at h1
   rw [List.size_toArray,<-hl]
   exact Option.some.inj h1
  exact PySem.W.ki_setBack ho (by lia) (by rw [List.size_toArray,<-hl];exact h3) (by lia) (by rw [hk];exact ⟨_,I',q⟩)
theorem slice_bounds(lo hi:Option Int)(n:Nat):(sliceBounds lo hi none n).1=((HT.sIx n 0 lo:Nat):Int)/\(sliceBounds lo hi none n).2.1=((HT.sIx n n hi:Nat):Int)/\(sliceBounds lo hi none n).2.2=1:=by
 refine ⟨?_,?_,rfl⟩
 ·cases lo with
  | none=>simp [sliceBounds,HT.sIx]
  | some i =>
   simp only [sliceBounds,HT.sIx,Option.getD_none,show (1:Int) > 0 by decide,if_true]
   by_cases h:i<0
   ·simp only [h,if_true]<;>lia
   ·simp only [h,if_false]<;>lia
 ·cases hi with
  | none=>simp [sliceBounds,HT.sIx]
  | some i =>
   simp only [sliceBounds,HT.sIx,Option.getD_none,show (1:Int) > 0 by decide,if_true]
   by_cases h:i<0
   ·simp only [h,if_true]<;>lia
   ·simp only [h,if_false]<;>lia
theorem slicePick_cut(its:List Value)(lo hi:Option Int):slicePick its.toArray lo hi none=((its.drop (HT.sIx its.length 0 lo)).take (HT.sIx its.length its.length hi-HT.sIx its.length 0 lo)).toArray:=by
 obtain ⟨h1,h2,h3⟩:=slice_bounds lo hi its.toArray.size
 unfold slicePick
 rw [h1,h2,h3]
 simp only [sliceRange_one,pick_run,List.size_toArray]<;>rfl
def rSlL(K:PySem.W.Frag):V->Option Int->Option Int->Hp->VK->Prop:=fun x lo hi H Q=>∃ a xs,x = .ref a/\SqL K H a xs/\∀ p,H p=none->Q (.ref p) (upd H p (.lst (cutV xs lo hi)))
theorem sl_list:SlR X (rSlL X.K):=by
 intro pins s σ H x v vl vu lo hi sl Q I rx hs pl pu h
 obtain ⟨a,xs,rfl,hx,q⟩:=h
 cases rx
 obtain ⟨its,r,ht,hz⟩:=I.list hx
 have hlen:=r.length
 refine ⟨"list",_,slot_list_getitem.lookup,ht.isList.typeIs,?_⟩
 refine wpAny_getItem_list_slice ht.isList hs pl pu .none (by simp) ?_ (by rw [List.size_toArray]<;>lia)
 rw [slicePick_cut,<-hlen]
 refine ⟨.ref s.heap.objs.size,_,I.laid (t':=s.toks) (o:=.lst (cutV xs lo hi)) (fun b ob q=>Heap.get?_push_of_some _ q) (Nat.le_refl _) ?_,rfl,q _ (I.hok.fresh (Nat.le_refl _))⟩
 exact ⟨Nat.le_trans (cutV_length xs lo hi) hz,_,0,(r.drop (HT.sIx xs.length 0 lo)).take (HT.sIx xs.length xs.length hi-HT.sIx xs.length 0 lo),Heap.get?_push_size _ rfl⟩
def flatV:V->Bool
 | .non=>true
 | .bl _=>true
 | .int _=>true
 | .str _=>true
 | _=>false
def eqV:V->V->Bool
 | .non,.non=>true
 | .bl a,.bl b=>a == b
 | .bl a,.int b=>(if a then 1 else 0) == b
 | .int a,.bl b=>a == (if b then 1 else 0)
 | .int a,.int b=>a == b
 | .str a,.str b=>a == b
 | _,_=>false
theorem eqAt_V{A:Around}{s:Shared}{y x:V}{u v:Value}(ry:RelV y u)(rx:RelV x v)(fy:flatV y=true)(fx:flatV x=true):SeqAt.EqAt A s u v (eqV y x):=by
 cases y with
 | non =>
  cases ry
  cases x with
  | non=>cases rx;exact SeqAt.EqAt.same _
  | bl b=>cases rx;exact SeqAt.EqAt.none_bool b
  | int b=>obtain ⟨t,rfl⟩:=rx;exact SeqAt.EqAt.none_int b t
  | str b=>obtain ⟨t,rfl⟩:=rx;exact SeqAt.EqAt.none_str b t
  | _=>exact absurd (show false=true from fx) Bool.false_ne_true
 | bl a =>
  cases ry
  cases x with
  | non=>cases rx;exact SeqAt.EqAt.bool_none a
  | bl b=>cases rx;exact SeqAt.EqAt.bool_bool a b
  | int b=>obtain ⟨t,rfl⟩:=rx;exact SeqAt.EqAt.bool_int a b t
  | str b=>obtain ⟨t,rfl⟩:=rx;exact SeqAt.EqAt.bool_str a b t
  | _=>exact absurd (show false=true from fx) Bool.false_ne_true
 | int a =>
  obtain ⟨t',rfl⟩:=ry
  cases x with
  | non=>cases rx;exact SeqAt.EqAt.int_none a t'
  | bl b=>cases rx;exact SeqAt.EqAt.int_bool a t' b
  | int b=>obtain ⟨t,rfl⟩:=rx;exact SeqAt.EqAt.int_int a t' b t
  | str b=>obtain ⟨t,rfl⟩:=rx;exact SeqAt.EqAt.int_str a t' b t
  | _=>exact absurd (show false=true from fx) Bool.false_ne_true
 | str a =>
  obtain ⟨t',rfl⟩:=ry
  cases x with
  | non=>cases rx;exact SeqAt.EqAt.str_none a t'
  | bl b=>cases rx;exact SeqAt.EqAt.str_bool a t' b
  | int b=>obtain ⟨t,rfl⟩:=rx;exact SeqAt.EqAt.str_int a t' b t
  | str b=>obtain ⟨t,rfl⟩:=rx;exact SeqAt.EqAt.str_str a t' b t
  | _=>exact absurd (show false=true from fx) Bool.false_ne_true
 | _=>exact absurd (show false=true from fy) Bool.false_ne_true
def eqU(x:V)(u:Value):Bool:=match u with
 | .none=>eqV .non x
 | .bool b=>eqV (.bl b) x
 | .int i _=>eqV (.int i) x
 | .str z _=>eqV (.str z) x
 | _=>false
theorem eqU_of{x y:V}{u:Value}(r:RelV y u)(f:flatV y=true):eqU x u=eqV y x:=by
 cases y with
 | non=>cases r;rfl
 | bl b=>cases r;rfl
 | int i=>obtain ⟨t,rfl⟩:=r;rfl
 | str z=>obtain ⟨t,rfl⟩:=r;rfl
 | _=>exact absurd (show false=true from f) Bool.false_ne_true
theorem any_eqU{x:V}:∀ {xs:List V} {us:List Value},Vals xs us->xs.all flatV=true->us.any (eqU x)=xs.any fun y=>eqV y x
 | _,_,.nil,_=>rfl
 | y::xs,u::us,.cons r t,f=>by
  rw [List.all_cons,Bool.and_eq_true] at f
  rw [List.any_cons,List.any_cons,eqU_of r f.1,any_eqU t f.2]
theorem mem_eqAt{A:Around}{s:Shared}{x:V}{v:Value}(rx:RelV x v)(fx:flatV x=true):∀ {xs:List V} {us:List Value},Vals xs us->xs.all flatV=true->∀ u∈us,SeqAt.EqAt A s u v (eqU x u)
 | _,_,.nil,_=>fun u hu=>by cases hu
 | y::xs,u::us,.cons r t,f=>fun u' hu=>by
  rw [List.all_cons,Bool.and_eq_true] at f
  rcases List.mem_cons.mp hu with rfl | hu
  ·rw [eqU_of r f.1];exact eqAt_V r rx f.1 fx
  ·exact mem_eqAt rx fx t f.2 u' hu
def inV(x:V)(xs:List V):Bool:=xs.any fun y=>eqV y x
def rIn(K:PySem.W.Frag)(neg:Bool):R2:=fun x y H Q=>∃ p xs,y = .ref p/\(SqL K H p xs\/SqT K H p xs)/\flatV x=true/\xs.all flatV=true/\Q (.bl (if neg then !inV x xs else inV x xs)) H
theorem op_in_seq:OpR X (compareOp .In) (rIn X.K false):=by
 intro pins s σ H x y v u Q I rx ry h
 obtain ⟨p,xs,rfl,hq,fx,fs,q⟩:=h
 cases ry
 rcases hq with hq | hq
 ·obtain ⟨its,r,pl,hz⟩:=I.list hq
  refine SeqAt.in_listAt (eqU x) pl.isList (fun w hw=>mem_eqAt rx fx r fs w (by simpa using hw)) ⟨.bl _,H,I,rfl,?_⟩
  rw [show its.toArray.any (eqU x)=its.any (eqU x) by simp,any_eqU r fs]
  exact q
 ·obtain ⟨its,r,pl,hz⟩:=I.tuple hq
  refine SeqAt.in_tupleAt (eqU x) pl (fun w hw=>mem_eqAt rx fx r fs w (by simpa using hw)) ⟨.bl _,H,I,rfl,?_⟩
  rw [show its.toArray.any (eqU x)=its.any (eqU x) by simp,any_eqU r fs]
  exact q
theorem call_list_of:CallR X (.type "list") (fun xs H Q=>∃ p ys,xs=[.ref p]/\(SqL X.K H p ys\/SqT X.K H p ys)/\∀ l,H l=none->Q (.ref l) (upd H l (.lst ys))):=by
 intro pins s σ H xs us Q I r h
 obtain ⟨p,ys,rfl,hq,q⟩:=h
 obtain ⟨u,rfl,rx⟩:=vals1 r
 cases rx
 have fin:∀ (its:List Value),Vals ys its->ys.length<=sizeLine->∀ (h':Heap) (c':Nat),(∀ b o',s.heap.get? b=some o'->h'.get? b=some o') ->
   h'.get? s.heap.objs.size=some { cls:=.type "list",dict:=none,data:=.seq its.toArray c',slots:=#[] }->EP X pins σ Q (.ref s.heap.objs.size) { s with heap:=h' }:=fun its r' hz h' c' kp e =>
  ⟨.ref s.heap.objs.size,_,I.laid (t':=s.toks) kp (Nat.le_refl _) (show ObjOk X.prog X.w _ h' _ (.lst ys) from ⟨hz,its,c',r',e⟩),rfl,q _ (I.hok.fresh (Nat.le_refl _))⟩
 rcases hq with hq | hq
 ·obtain ⟨its,r',pl,hz⟩:=I.list hq
  have hlen:=r'.length
  obtain ⟨o,ho,hc,n,hd⟩:=pl.isList
  exact call_list_seq p (.inl rfl) ho hc hd (fun h' c' kp e=>fin its r' hz h' c' kp e) (by simp only [List.size_toArray]<;>lia)
 ·obtain ⟨its,r',pl,hz⟩:=I.tuple hq
  have hlen:=r'.length
  obtain ⟨o,ho,hc,n,hd⟩:=pl
  exact call_list_seq p (.inr rfl) ho hc hd (fun h' c' kp e=>fin its r' hz h' c' kp e) (by simp only [List.size_toArray]<;>lia)
theorem call_tuple_of:CallR X (.type "tuple") (fun xs H Q=>∃ p ys,xs=[.ref p]/\((SqL X.K H p ys/\∀ l,H l=none->Q (.ref l) (upd H l (.tup ys)))\/(SqT X.K H p ys/\Q (.ref p) H))):=by
 intro pins s σ H xs us Q I r h
 obtain ⟨p,ys,rfl,h⟩:=h
 obtain ⟨u,rfl,rx⟩:=vals1 r
 cases rx
 rcases h with ⟨hq,q⟩ | ⟨hq,q⟩
 ·obtain ⟨its,r',pl,hz⟩:=I.list hq
  have hlen:=r'.length
  refine call_tuple_list pl.isList (fun h' kp=>?_) (by simp only [List.size_toArray]<;>lia)
  have I1:Inv X pins σ H { s with heap:=h' }:=I.kept (t':=s.toks) kp
  have I2:Inv X pins σ (upd H h'.objs.size (.tup ys)) { s with heap:=h'.push { cls:=.type "tuple",data:=.seq its.toArray } } :=
   I1.laid (t':=s.toks) (fun b o e=>Heap.get?_push_of_some _ e) (Nat.le_refl _) (show ObjOk X.prog X.w _ _ _ (.tup ys) from ⟨hz,its,r',IsTup.new _ _⟩)
  exact ⟨.ref h'.objs.size,_,I2,rfl,q _ (I1.hok.fresh (Nat.le_refl _))⟩
 ·obtain ⟨its,r',pl,hz⟩:=I.tuple hq
  exact call_tuple_same pl ⟨.ref p,H,I,rfl,q⟩
def tyV(K:PySem.W.Frag)(T:String)(x:V)(H:Hp):Prop:=match x with
 | .str _=>T = "str"
 | .int _=>T = "int"
 | .ref p=>(T = "list" /\ ∃ xs,SqL K H p xs)\/(T = "tuple" /\ ∃ o,K.lookup p=some o/\o.cls = .type "tuple" /\ o.dict=none) \/
   (T = "dict" /\ ((∃ kvs,H p=some (.dK kvs))\/∃ kvs,H p=some (.dT kvs)))\/(T = "set" /\ ∃ S n,H p=some (.set S n))
 | _=>False
theorem tyV_is{pins:List (Addr×Obj)}{σ:St}{H:Hp}{s:Shared}{T:String}{x:V}{v:Value}(I:Inv X pins σ H s)(r:RelV x v)(ty:tyV X.K T x H) :
  s.TypeIs v T/\∀ a,v = .ref a->∃ ob,s.heap.get? a=some ob/\ob.dict=none:=by
 cases x with
 | str z =>
  obtain ⟨t,rfl⟩:=r
  cases (show T = "str" from ty)
  exact ⟨typeIs_str s z t,fun _ e=>nomatch e⟩
 | int i =>
  obtain ⟨t,rfl⟩:=r
  cases (show T = "int" from ty)
  exact ⟨typeIs_int s i t,fun _ e=>nomatch e⟩
 | ref p =>
  cases r
  rcases ty with ⟨rfl,xs,hq⟩ | ⟨rfl,o,hk,hc,hd⟩ | ⟨rfl,hk⟩ | ⟨rfl,S,n,hk⟩
  ·obtain ⟨its,_,pl,_⟩:=I.list hq
   refine ⟨pl.isList.typeIs,fun a e=>?_⟩
   cases e
   obtain ⟨o,n,e,c,hd,_⟩:=pl
   exact ⟨o,e,hd⟩
  ·refine ⟨⟨o,I.kIn p o hk,hc⟩,fun a e=>?_⟩
   cases e
   exact ⟨o,I.kIn _ o hk,hd⟩
  ·have z:∃ o,s.heap.get? p=some o/\o.ExactDict:=by
    rcases hk with ⟨kvs,hk⟩ | ⟨kvs,hk⟩
    ·obtain ⟨_,_,_,_,o,_,_,e,ex,_⟩:=I.hok p _ hk
     exact ⟨o,e,ex⟩
    ·obtain ⟨_,_,_,_,o,_,_,e,ex,_⟩:=I.hok p _ hk
     exact ⟨o,e,ex⟩
   obtain ⟨o,e,ex⟩:=z
   refine ⟨⟨o,e,ex.1⟩,fun a e2=>?_⟩
   cases e2
   exact ⟨o,e,ex.2.1⟩
  ·obtain ⟨o,_,_,_,e,ex,_⟩:=I.hok p _ hk
   refine ⟨⟨o,e,ex.1⟩,fun a e2=>?_⟩
   cases e2
   exact ⟨o,e,ex.2.1⟩
 | _=>exact False.elim ty
def tBM0(K:PySem.W.Frag)(T:String)(r:V->List V->Hp->VK->Prop)(to:TE):TE:=fun σ H Q=>to σ H fun x H1=>tyV K T x H1/\r x [] H1 Q
def tBM(K:PySem.W.Frag)(T:String)(r:V->List V->Hp->VK->Prop)(to:TE)(t:TA):TE:=fun σ H Q=>to σ H fun x H1=>tyV K T x H1/\t σ H1 fun xs H2=>r x xs H2 Q
variable {o e:Expr} {es:List Expr} {to:TE} {t:TA} {name:Str} {apos cpos:Pos} {T id:String} {r:V->List V->Hp->VK->Prop}
theorem pe_bm0(pa:PlainAttrs T)(slot:Slot T name id)(hty:typeOf (.builtin id)=pure (.type "method_descriptor"))(hm:MtR X id r)(ho:PE X o to)
  (hbase:attributeBase o name X.env (eval o X.env)=eval o X.env:=by rfl) (hline:(apos.endLine == cpos.line)=true:=by rfl):PE X (.Call (.Attribute o name apos) [] [] cpos) (tBM0 X.K T r to):=by
 intro pins s σ H Q I h
 refine wpAny_Call_method0_late hbase hline (thn (ho pins s σ H _ I h) fun v s1 ⟨x,H1,I1,r1,ty,q1⟩=>?_)
 obtain ⟨h1,h2⟩:=tyV_is I1 r1 ty
 exact ⟨T,id,pa,slot,hty,h1,h2,Calls.callWith_builtin rfl (PySem.evalArgs_none (hm pins s1 σ H1 x [] v [] Q I1 r1 .nil q1))⟩
theorem pe_bm(pa:PlainAttrs T)(slot:Slot T name id)(hty:typeOf (.builtin id)=pure (.type "method_descriptor"))(hm:MtR X id r)(ho:PE X o to)(ha:PA X (e::es) t)
  (hbase:attributeBase o name X.env (eval o X.env)=eval o X.env:=by rfl)
  (hfew:((backTo cpos (starEach (e::es) X.env)).all (fun x=>!x.1)&&(backToKw cpos (keywordEach [] X.env)).all (fun x=>x.1.isSome)
   && decide ((e::es).length+([]:List Keyword).length+(if ([]:List Keyword).isEmpty then 0 else 1)<30))=true:=by rfl)
  (hline:(apos.endLine == cpos.line)=true:=by rfl) (hs:starEach (e::es) X.env=(false,eval e X.env)::starEach es X.env:=by rfl) (hplain:(backTo cpos (starEach es X.env)).any (·.1)=false:=by rfl) :
  PE X (.Call (.Attribute o name apos) (e::es) [] cpos) (tBM X.K T r to t):=by
 intro pins s σ H Q I h
 refine wpAny_Call_method_late hbase hfew hline rfl (thn (ho pins s σ H _ I h) fun v s1 ⟨x,H1,I1,r1,ty,q1⟩=>?_)
 obtain ⟨h1,h2⟩:=tyV_is I1 r1 ty
 refine ⟨T,id,pa,slot,hty,h1,h2,?_⟩
 have hA:=ha cpos pins s1 σ H1 _ I1 q1
 rw [hs] at hA ⊢
 refine Calls.callWith_builtin (by show (false || (backTo cpos (starEach es X.env)).any (·.1))=false;rw [hplain]<;>rfl) (Calls.evalArgs_plain ?_)
 exact thn hA fun us s2 ⟨vs,H2,I2,r2,q2⟩=>hm pins s2 σ H2 x vs v us Q I2 r1 r2 q2
/- xs.append(e),list.index on a module's tuple .. are MtR facts of 06m -/
end
end L2
namespace L2
open PySem PySem.Spec PyProof.Rows
def MtM(X:Cx)(id:String)(r:V->List V->Hp->VK->Prop):Prop :=
 ∀ (pins:List (Addr×Obj)) (s:Shared) (σ:St) (H:Hp) (x:V) (xs:List V) (v:Value) (us:List Value) (Q:VK),Inv X pins σ H s->RelV x v->Vals xs us->r x xs H Q ->
  wpAny (model X.prog X.w) X.A (call (.builtin id) (v::us)) (EP X pins σ Q) X.xe s
theorem Vals.one:∀ {x:V} {us:List Value},Vals [x] us->∃ u,us=[u]/\RelV x u
 | _,_,.cons r .nil=>⟨_,rfl,r⟩
theorem Vals.zero:∀ {us:List Value},Vals [] us->us=[]
 | _,.nil=>rfl
theorem Vals.dropLast{xs:List V}{us:List Value}(h:Vals xs us):Vals xs.dropLast us.dropLast:=by
 induction h with
 | nil=>exact .nil
 | cons r t ih =>
  cases t with
  | nil=>exact .nil
  | cons q t'=>exact .cons r ih
theorem Vals.eraseIdx:∀ {xs:List V} {us:List Value} (i:Nat),Vals xs us->Vals (xs.eraseIdx i) (us.eraseIdx i)
 | _,_,_,.nil=>.nil
 | _,_,0,.cons _ t=>t
 | _,_,i+1,.cons r t=>.cons r (Vals.eraseIdx i t)
theorem Vals.reverse{xs:List V}{us:List Value}(h:Vals xs us):Vals xs.reverse us.reverse:=by
 induction h with
 | nil=>exact .nil
 | cons r t ih=>rw [List.reverse_cons,List.reverse_cons];exact Vals.append ih (.cons r .nil)
theorem Vals.rep{xs:List V}{us:List Value}(h:Vals xs us):∀ k:Nat,Vals (List.replicate k xs).flatten (List.replicate k us).flatten
 | 0=>.nil
 | k+1=>by
  rw [List.replicate_succ,List.replicate_succ,List.flatten_cons,List.flatten_cons]
  exact Vals.append h (Vals.rep h k)
theorem erase_last{α:Type}(l:List α):l.eraseIdx (l.length-1)=l.dropLast:=by
 induction l with
 | nil=>rfl
 | cons a r ih =>
  cases r with
  | nil=>rfl
  | cons b r =>
   have e:(a::b::r).length-1=((b::r).length-1)+1:=by
    have h1:(a::b::r).length=r.length+2:=rfl
    have h2:(b::r).length=r.length+1:=rfl
    lia
   rw [e,List.eraseIdx_cons_succ,ih]
   all_goals rfl
theorem len_erase{α:Type}:∀ (l:List α) (i:Nat),(l.eraseIdx i).length<=l.length
 | [],_=>Nat.le_refl _
 | _::_,0=>Nat.le_succ _
 | _::r,i+1=>Nat.succ_le_succ (len_erase r i)
theorem foldl_rep(its:List Value):∀ (k:Nat) (acc:List Value),
  List.foldl (fun x1 x2=>x1++x2) acc.toArray (List.replicate k its.toArray)=(acc++(List.replicate k its).flatten).toArray
 | 0,acc=>by simp
 | k+1,acc=>by
  have e:acc.toArray++its.toArray=(acc++its).toArray:=by simp
  have e2:(acc++its)++(List.replicate k its).flatten=acc++(List.replicate (k+1) its).flatten:=by
   rw [List.replicate_succ,List.flatten_cons,List.append_assoc]
  rw [<-e2,<-foldl_rep its k (acc++its),<-e,List.replicate_succ,List.foldl_cons]
section
variable {X:Cx} {pins:List (Addr×Obj)} {σ:St} {H:Hp} {s:Shared} {l b:Addr} {xs ys zs:List V}
theorem Inv.lset{its its':List Value}{n:Nat}{f:Array Value->Array Value}{t':Nat}(I:Inv X pins σ H s)(hH:H l=some (.lst xs))
  (e:s.heap.get? l=some { cls:=.type "list",data:=.seq its.toArray n }) (hf:f its.toArray=its'.toArray) (hv:Vals ys its') (hz:ys.length<=sizeLine) :
  Inv X pins σ (upd H l (.lst ys)) { s with heap:=s.heap.update l (Obj.mapSeq f),toks:=t' }:=by
 have q:=PySem.IsL.update e f
 rw [hf] at q
 refine I.write (x:=l) (e:=l) (by rw [hH];exact trivial) (.inl rfl) (fun b' u hb hu=>(Heap.get?_update_other s.heap (Obj.mapSeq f) (Ne.symm hb)).trans hu) ⟨_,q⟩ ?_
 exact ⟨hz,its',_,hv,q⟩
theorem Inv.lnew{its:List Value}{t':Nat}(I:Inv X pins σ H s)(hv:Vals ys its)(hz:ys.length<=sizeLine) :
  Inv X pins σ (upd H s.heap.objs.size (.lst ys)) { s with heap:=s.heap.push { cls:=.type "list",data:=.seq its.toArray },toks:=t' } :=
 I.laid (fun _ _ q=>Heap.get?_push_of_some _ q) (Nat.le_refl _) ⟨hz,its,0,hv,Heap.get?_push_size _ rfl⟩
theorem Inv.fresh(I:Inv X pins σ H s):H s.heap.objs.size=none:=I.hok.fresh (Nat.le_refl _)
theorem Inv.lstM(I:Inv X pins σ H s)(hH:H l=some (.lst xs)):xs.length<=sizeLine/\∃ (its:List Value) (n:Nat),Vals xs its/\xs.length=its.length/\s.heap.get? l=some { cls:=.type "list",data:=.seq its.toArray n }:=by
 obtain ⟨z,its,n,r,e⟩:=I.hok l _ hH
 exact ⟨z,its,n,r,r.length,e⟩
theorem notLongL{n:Nat}(h:n<=sizeLine):Builtin.List.listTooLong n=false:=by
 unfold Builtin.List.listTooLong
 exact decide_eq_false (by lia)
end
section
variable {X:Cx}
def rAppend:V->List V->Hp->VK->Prop:=fun x vs H Q=>∃ l xs y,x = .ref l/\vs=[y]/\H l=some (.lst xs)/\xs.length<sizeLine/\Q .non (upd H l (.lst (xs++[y])))
theorem y_u:MtM X "list.append" rAppend:=by
 intro pins s σ H x vs v us Q I rx rv h
 obtain ⟨l,xs,y,rfl,rfl,hH,hz,q⟩:=h
 cases rx
 obtain ⟨u,rfl,ru⟩:=rv.one
 obtain ⟨z,its,n,r,hl,e⟩:=I.lstM hH
 refine call_meets F.slot_list_append ⟨_,e,rfl⟩ F.entry_list_append (F.args_list_append_2 _ _) (PySem.list_append l its.toArray n u (by rw [List.size_toArray];lia)) ⟨e,?_⟩
 refine ⟨.non,_,I.lset (its':=its++[u]) hH e (by simp) (r.append (.cons ru .nil)) ?_,rfl,q⟩
 rw [List.length_append,List.length_singleton]
 lia
def rExtend:V->List V->Hp->VK->Prop:=fun x vs H Q=>∃ l b xs zs,x = .ref l/\vs=[.ref b]/\H l=some (.lst xs)/\H b=some (.lst zs)/\xs.length+zs.length<=sizeLine/\Q .non (upd H l (.lst (xs++zs)))
theorem mt_extend:MtM X "list.extend" rExtend:=by
 intro pins s σ H x vs v us Q I rx rv h
 obtain ⟨l,b,xs,zs,rfl,rfl,hH,hB,hz,q⟩:=h
 cases rx
 obtain ⟨u,rfl,ru⟩:=rv.one
 cases ru
 obtain ⟨z,its,n,r,hl,e⟩:=I.lstM hH
 obtain ⟨z2,its2,n2,r2,hl2,e2⟩:=I.lstM hB
 have hsz:its.toArray.size+its2.toArray.size<=sizeLine:=by rw [List.size_toArray,List.size_toArray];lia
 have hlong:¬(!its.toArray.isEmpty&&Builtin.List.listTooLong (its.toArray.size+its2.toArray.size))=true:=by
  rw [notLongL hsz,Bool.and_false]
  exact Bool.false_ne_true
 refine call_meets F.slot_list_extend ⟨_,e,rfl⟩ F.entry_list_extend (F.args_list_extend_2 _ _)
  (AutoSeq1.list_extend_list_list_0 l its.toArray n b its2.toArray n2 hlong (by rw [List.size_toArray];lia) (by lia)) ⟨e,e2,?_⟩
 refine ⟨.non,_,I.lset (its':=its++its2) hH e (by simp) (r.append r2) ?_,rfl,q⟩
 rw [List.length_append]
 lia
def rPop:V->List V->Hp->VK->Prop:=fun x vs H Q=>∃ l xs y,x = .ref l/\vs=[]/\H l=some (.lst xs)/\xs[xs.length-1]? = some y/\Q y (upd H l (.lst xs.dropLast))
theorem mt_pop:MtM X "list.pop" rPop:=by
 intro pins s σ H x vs v us Q I rx rv h
 obtain ⟨l,xs,y,rfl,rfl,hH,hy,q⟩:=h
 cases rx
 have hus:=rv.zero
 subst hus
 obtain ⟨z,its,n,r,hl,e⟩:=I.lstM hH
 obtain ⟨u,hu,ru⟩:=r.get hy
 have hy':its.toArray[its.toArray.size-1]? = some u:=by
  show its.toArray[its.length-1]? = some u
  rw [<-Array.getElem?_toList,<-hl]
  exact hu
 refine call_meets F.slot_list_pop ⟨_,e,rfl⟩ F.entry_list_pop (F.args_list_pop_1 _) (MeetsSeq.list_pop_last l its.toArray n u hy' (by rw [List.size_toArray];lia)) ⟨e,?_⟩
 refine ⟨y,_,I.lset (its':=its.dropLast) hH e ?_ r.dropLast ?_,ru,q⟩
 ·show its.toArray.eraseIdxIfInBounds (its.toArray.size-1)=its.dropLast.toArray
  rw [List.size_toArray,List.eraseIdxIfInBounds_toArray,erase_last]
 ·rw [List.length_dropLast]
  lia
def rPopAt:V->List V->Hp->VK->Prop:=fun x vs H Q=>∃ l xs i k y,x = .ref l/\vs=[.int i]/\H l=some (.lst xs) /\ -(2^63)<=i/\i<2^63/\seqIndex? i xs.length=some k/\xs[k]? = some y/\Q y (upd H l (.lst (xs.eraseIdx k)))
theorem mt_popAt:MtM X "list.pop" rPopAt:=by
 intro pins s σ H x vs v us Q I rx rv h
 obtain ⟨l,xs,i,k,y,rfl,rfl,hH,h1,h2,hk,hy,q⟩:=h
 cases rx
 obtain ⟨u,rfl,ru⟩:=rv.one
 obtain ⟨t,rfl⟩:=ru
 obtain ⟨z,its,n,r,hl,e⟩:=I.lstM hH
 obtain ⟨w,hw,rw'⟩:=r.get hy
 refine call_meets F.slot_list_pop ⟨_,e,rfl⟩ F.entry_list_pop (F.args_list_pop_2 _ _)
  (MeetsSeq.list_pop_at l its.toArray n i t k w (fitsIndex_both h1 h2) (by rw [List.size_toArray,<-hl];exact hk) (by rw [<-Array.getElem?_toList];exact hw) (by rw [List.size_toArray];lia)) ⟨e,?_⟩
 refine ⟨y,_,I.lset (its':=its.eraseIdx k) hH e ?_ (r.eraseIdx k) ?_,rw',q⟩
 ·show its.toArray.eraseIdxIfInBounds k=(its.eraseIdx k).toArray
  rw [List.eraseIdxIfInBounds_toArray]
 ·have:=len_erase xs k
  lia
def rReverse:V->List V->Hp->VK->Prop:=fun x vs H Q=>∃ l xs,x = .ref l/\vs=[]/\H l=some (.lst xs)/\Q .non (upd H l (.lst xs.reverse))
theorem mt_reverse:MtM X "list.reverse" rReverse:=by
 intro pins s σ H x vs v us Q I rx rv h
 obtain ⟨l,xs,rfl,rfl,hH,q⟩:=h
 cases rx
 have hus:=rv.zero
 subst hus
 obtain ⟨z,its,n,r,hl,e⟩:=I.lstM hH
 refine call_meets F.slot_list_reverse ⟨_,e,rfl⟩ F.entry_list_reverse (F.args_list_reverse_1 _) (AutoSeq1.list_reverse_list_0 l its.toArray n (by rw [List.size_toArray];lia)) ⟨e,?_⟩
 refine ⟨.non,_,I.lset (its':=its.reverse) hH e (by simp) r.reverse ?_,rfl,q⟩
 rw [List.length_reverse]
 lia
def rCat:R2:=fun x y H Q=>∃ l b xs zs,x = .ref l/\y = .ref b/\H l=some (.lst xs)/\H b=some (.lst zs)/\xs.length+zs.length<=sizeLine/\∀ p,H p=none->Q (.ref p) (upd H p (.lst (xs++zs)))
theorem op_cat:OpR X (binaryOp .Add) rCat:=by
 intro pins s σ H x y v u Q I rx ry h
 obtain ⟨l,b,xs,zs,rfl,rfl,hH,hB,hz,q⟩:=h
 cases rx
 cases ry
 obtain ⟨z,its,n,r,hl,e⟩:=I.lstM hH
 obtain ⟨z2,its2,n2,r2,hl2,e2⟩:=I.lstM hB
 refine PySem.P.add_list e e2 ?_ (by rw [List.size_toArray,List.size_toArray];lia)
 have ea:its.toArray++its2.toArray=(its++its2).toArray:=by simp
 rw [ea]
 exact ⟨.ref _,_,I.lnew (t':=s.toks) (r.append r2) (by rw [List.length_append];lia),rfl,q _ I.fresh⟩
def rRep:R2:=fun x y H Q=>∃ l k xs,x = .ref l/\y = .int k/\H l=some (.lst xs) /\ -(2^63)<=k/\k<2^63/\xs.length*k.toNat<=sizeLine /\
 ∀ p,H p=none->Q (.ref p) (upd H p (.lst (List.replicate k.toNat xs).flatten))
theorem len_rep{α:Type}(xs:List α)(k:Nat):(List.replicate k xs).flatten.length=k*xs.length:=by
 induction k with
 | zero=>simp
 | succ k ih=>rw [List.replicate_succ,List.flatten_cons,List.length_append,ih,Nat.succ_mul,Nat.add_comm]
theorem op_rep:OpR X (binaryOp .Mult) rRep:=by
 intro pins s σ H x y v u Q I rx ry h
 obtain ⟨l,k,xs,rfl,rfl,hH,h1,h2,hz,q⟩:=h
 cases rx
 obtain ⟨t,rfl⟩:=ry
 obtain ⟨z,its,n,r,hl,e⟩:=I.lstM hH
 have hlen:its.toArray.size*k.toNat<=sizeLine:=by rw [List.size_toArray,<-hl];exact hz
 have hcap:¬its.toArray.size*k.toNat > (2^63-1)/8:=by
  have:(sizeLine:Nat)<=(2^63-1)/8:=by decide
  lia
 have hfit:¬(!Builtin.List.listFitsIndex k)=true:=by
  rw [fitsIndex_both h1 h2]
  exact Bool.false_ne_true
 have hlong:¬Builtin.List.listTooLong (its.toArray.size*k.toNat)=true:=by
  rw [notLongL hlen]
  exact Bool.false_ne_true
 have hnew:List.foldl (fun x1 x2=>x1++x2) #[] (List.replicate (if its.toArray.isEmpty=true then 0 else k.toNat) its.toArray)=(List.replicate k.toNat its).flatten.toArray:=by
  have f0:∀ m:Nat,List.foldl (fun x1 x2=>x1++x2) #[] (List.replicate m its.toArray)=(List.replicate m its).flatten.toArray:=fun m=>by
   have:=foldl_rep its m []
   rw [List.nil_append] at this
   exact this
  rw [f0]
  cases its with
  | nil=>simp
  | cons a r'=>rw [if_neg (by simp)]
 refine wpAny_binaryOp_repeat_ref (T := "list") (U := "int") (by decide) ⟨_,e,rfl⟩ (fun s'=>typeIs_int s' k t) noFill_list_mul F.fills_int_mul F.slot_int_rmul repeat_list F.slot_int_index.lookup
  (call_meets F.slot_int_rmul (typeIs_int s k t) F.entry_int_rmul (F.args_int_rmul_2 _ _) (int___rmul___int_list k t l its.toArray n)
   ⟨e,rfl,⟨_,e,rfl⟩,call_meets F.slot_list_mul ⟨_,e,rfl⟩ F.entry_list_mul (F.args_list_mul_2 _ _) (AutoListH.list___mul___list_int_3 l its.toArray n k t hfit hcap hlong) ⟨e,?_⟩⟩)
 rw [hnew]
 exact ⟨.ref _,_,I.lnew (t':=s.toks) (r.rep k.toNat) (by rw [len_rep,Nat.mul_comm];exact hz),rfl,q _ I.fresh⟩
end
open PySem PySem.Spec PyProof.Rows
section
variable {κ:Type} [DecidableEq κ]
def valV(kvs:List (κ×V))(k:κ):Option V:=(kvs.find? fun kv=>decide (kv.1=k)).map (·.2)
def putK(kvs:List (κ×V))(k:κ)(v:V):List (κ×V) :=
 if (kvs.any fun kv=>decide (kv.1=k))=true then kvs.map (fun kv=>if kv.1=k then (kv.1,v) else kv) else kvs++[(k,v)]
theorem x_w{p:κ×V}{r:List (κ×V)}{k:κ}(e:p.1=k):valV (p::r) k=some p.2:=by simp [valV,List.find?_cons,e]
theorem x_v{p:κ×V}{r:List (κ×V)}{k:κ}(e:¬p.1=k):valV (p::r) k=valV r k:=by simp [valV,List.find?_cons,e]
theorem valV_any(k:κ):∀ kvs:List (κ×V),(kvs.any fun kv=>decide (kv.1=k))=(valV kvs k).isSome
 | []=>rfl
 | p::r=>by
  rw [List.any_cons]
  by_cases e:p.1=k
  ·simp only [x_w e,decide_eq_true e,Bool.true_or,Option.isSome_some]
  ·rw [x_v e,decide_eq_false e,Bool.false_or];exact valV_any k r
theorem valV_map(k j:κ)(y:V):∀ kvs:List (κ×V),valV (kvs.map fun kv=>if kv.1=k then (kv.1,y) else kv) j=(valV kvs j).map fun x=>if j=k then y else x
 | []=>rfl
 | p::r=>by
  have ih:=valV_map k j y r
  rw [List.map_cons]
  by_cases h:p.1=k
  ·rw [if_pos h]
   by_cases e:p.1=j
   ·rw [x_w (p:=(p.1,y)) e,x_w e,Option.map_some,if_pos (e.symm.trans h)]
   ·rw [x_v (p:=(p.1,y)) e,x_v e,ih]
  ·rw [if_neg h]
   by_cases e:p.1=j
   ·rw [x_w (p:=p) e,x_w e,Option.map_some,if_neg (fun z=>h (e.trans z))]
   ·rw [x_v (p:=p) e,x_v e,ih]
theorem valV_snoc(k j:κ)(y:V):∀ kvs:List (κ×V),valV kvs k=none->valV (kvs++[(k,y)]) j=if j=k then some y else valV kvs j
 | [],_=>by
  by_cases e:k=j
  ·rw [if_pos e.symm];exact x_w (p:=(k,y)) e
  ·rw [if_neg (fun z=>e z.symm)];exact x_v (p:=(k,y)) e
 | p::r,hn=>by
  rw [List.cons_append]
  have hk:¬p.1=k:=fun z=>by rw [x_w z] at hn;cases hn
  rw [x_v hk] at hn
  have ih:=valV_snoc k j y r hn
  by_cases e:p.1=j
  ·rw [x_w e,x_w e,if_neg (fun z=>hk (e.trans z))]
  ·rw [x_v e,x_v e,ih]
theorem valV_put(kvs:List (κ×V))(k j:κ)(y:V):valV (putK kvs k y) j=if j=k then some y else valV kvs j:=by
 unfold putK
 by_cases a:(kvs.any fun kv=>decide (kv.1=k))=true
 ·rw [if_pos a,valV_map]
  rw [valV_any] at a
  by_cases e:j=k
  ·obtain ⟨x,hx⟩:=Option.isSome_iff_exists.mp a
   rw [if_pos e,e,hx,Option.map_some,if_pos rfl]
  ·rw [if_neg e]
   cases valV kvs j with
   | none=>rfl
   | some x=>rw [Option.map_some,if_neg e]
 ·rw [if_neg a]
  refine valV_snoc k j y kvs ?_
  rw [valV_any] at a
  cases q:valV kvs k with
  | none=>rfl
  | some x=>rw [q] at a;exact (a rfl).elim
theorem x_q(kvs:List (κ×V))(k:κ)(v:V):(putK kvs k v).length<=kvs.length+1:=by
 unfold putK
 split
 ·rw [List.length_map];lia
 ·rw [List.length_append,List.length_cons,List.length_nil];lia
theorem RelO.isSome_eq{o:Option V}{u:Option Value}(r:RelO o u):o.isSome=u.isSome:=by
 cases o with
 | none=>cases u with
  | none=>rfl
  | some _=>exact (show False from r).elim
 | some _=>cases u with
  | none=>exact (show False from r).elim
  | some _=>rfl
theorem RelO.getD{o:Option V}{u:Option Value}{d:V}{d':Value}(r:RelO o u)(rd:RelV d d'):RelV (o.getD d) (u.getD d'):=by
 cases o with
 | none=>cases u with
  | none=>exact rd
  | some _=>exact (show False from r).elim
 | some _=>cases u with
  | none=>exact (show False from r).elim
  | some _=>exact r
theorem KV.val{kvs:List (κ×V)}{vs:List (κ×Value)}(r:KV kvs vs)(k:κ):RelO (valV kvs k) (valueAt vs k):=by
 unfold KV at r
 induction r with
 | nil=>exact True.intro
 | @cons p q ps qs h t ih =>
  obtain ⟨h1,h2⟩:=h
  by_cases e:p.1=k
  ·have e':q.1=k:=h1.symm.trans e
   have b:valueAt (q::qs) k=some q.2:=by simp [valueAt,List.find?_cons,e']
   rw [x_w e,b];exact h2
  ·have e':¬q.1=k:=fun z=>e (h1.trans z)
   have b:valueAt (q::qs) k=valueAt qs k:=by simp [valueAt,List.find?_cons,e']
   rw [x_v e,b];exact ih
theorem KV.any{kvs:List (κ×V)}{vs:List (κ×Value)}(r:KV kvs vs)(k:κ):(kvs.any fun kv=>decide (kv.1=k))=vs.any fun kv=>decide (kv.1=k):=by
 unfold KV at r
 induction r with
 | nil=>rfl
 | cons h t ih=>rw [List.any_cons,List.any_cons,ih,h.1]
theorem KV.repl{kvs:List (κ×V)}{vs:List (κ×Value)}(r:KV kvs vs)(k:κ){y:V}{u:Value}(ry:RelV y u) :
  KV (kvs.map fun kv=>if kv.1=k then (kv.1,y) else kv) (vs.map fun kv=>if kv.1=k then (kv.1,u) else kv):=by
 unfold KV at r ⊢
 induction r with
 | nil=>exact .nil
 | @cons p q ps qs h t ih =>
  rw [List.map_cons,List.map_cons]
  refine .cons ?_ ih
  obtain ⟨h1,h2⟩:=h
  by_cases e:p.1=k
  ·rw [if_pos e,if_pos (h1.symm.trans e)];exact ⟨h1,ry⟩
  ·rw [if_neg e,if_neg (fun z=>e (h1.trans z))];exact ⟨h1,h2⟩
theorem KV.put{kvs:List (κ×V)}{vs:List (κ×Value)}(r:KV kvs vs)(k:κ){y:V}{u:Value}(ry:RelV y u):KV (putK kvs k y) (stored vs k u):=by
 unfold putK stored
 rw [r.any k]
 by_cases e:(vs.any fun kv=>decide (kv.1=k))=true
 ·rw [if_pos e,if_pos e];exact r.repl k ry
 ·rw [if_neg e,if_neg e];exact Paired.snoc r ⟨rfl,ry⟩
theorem KV.keys{kvs:List (κ×V)}{vs:List (κ×Value)}(r:KV kvs vs):kvs.map (·.1)=vs.map (·.1):=by
 unfold KV at r
 induction r with
 | nil=>rfl
 | cons h t ih=>rw [List.map_cons,List.map_cons,ih,h.1]
theorem KV.length{kvs:List (κ×V)}{vs:List (κ×Value)}(r:KV kvs vs):kvs.length=vs.length:=Paired.length r
end
theorem kV_is{P:Program}{w:World}{k:Key}{u:Value}(r:RelV (kV k) u):(mixKind P w).is k u=true:=by
 cases k with
 | inl i=>obtain ⟨t,e⟩:=(show ∃ t,u=Value.int i t from r);subst e;exact mixKind_int P w i t
 | inr x=>obtain ⟨t,e⟩:=(show ∃ t,u=Value.str x t from r);subst e;exact mixKind_str P w x t
theorem items_are{P:Program}{w:World}:∀ {ks:List Key} {us:List Value},Vals (ks.map kV) us->ItemsAre (mixKind P w) ks us
 | [],_,r=>by rw [List.map_nil] at r;cases r;exact .nil
 | k::ks,_,r=>by
  rw [List.map_cons] at r
  cases r with
  | cons h t=>exact .cons (kV_is h) (items_are t)
abbrev KT(H:Hp):List (List Key×V)->List (List Key×Addr×Value)->Prop:=Paired fun p q=>p.1=q.1/\H q.2.1=some (.tup (p.1.map kV))/\RelV p.2 q.2.2
theorem KT.val{H:Hp}{kvs:List (List Key×V)}{xs:List (List Key×Addr×Value)}(r:KT H kvs xs)(k:List Key):RelO (valV kvs k) ((atKey xs k).map (·.2)):=by
 induction r with
 | nil=>exact True.intro
 | @cons p q ps qs h t ih =>
  obtain ⟨h1,_,h2⟩:=h
  by_cases e:p.1=k
  ·have e':q.1=k:=h1.symm.trans e
   have b:atKey (q::qs) k=some q.2:=by simp [atKey,List.find?_cons,e']
   rw [x_w e,b];exact h2
  ·have e':¬q.1=k:=fun z=>e (h1.trans z)
   have b:atKey (q::qs) k=atKey qs k:=by simp [atKey,List.find?_cons,e']
   rw [x_v e,b];exact ih
theorem KT.repl{H:Hp}{kvs:List (List Key×V)}{xs:List (List Key×Addr×Value)}(r:KT H kvs xs)(k:List Key){y:V}{u:Value}(ry:RelV y u) :
  KT H (kvs.map fun kv=>if kv.1=k then (kv.1,y) else kv) (xs.map (putAt k u)):=by
 induction r with
 | nil=>exact .nil
 | @cons p q ps qs h t ih =>
  rw [List.map_cons,List.map_cons]
  refine .cons ?_ ih
  obtain ⟨h1,h2,h3⟩:=h
  unfold putAt
  by_cases e:p.1=k
  ·rw [if_pos e,if_pos (h1.symm.trans e)];exact ⟨h1,h2,ry⟩
  ·rw [if_neg e,if_neg (fun z=>e (h1.trans z))];exact ⟨h1,h2,h3⟩
theorem KT.put{H:Hp}{kvs:List (List Key×V)}{xs:List (List Key×Addr×Value)}(r:KT H kvs xs)(k:List Key){b:Addr}{y:V}{u:Value}(hb:H b=some (.tup (k.map kV)))(ry:RelV y u) :
  KT H (putK kvs k y) (storedH xs k b u):=by
 have e:(kvs.any fun kv=>decide (kv.1=k))=(atKey xs k).isSome:=by
  rw [valV_any,(r.val k).isSome_eq,Option.isSome_map]
 unfold putK storedH
 rw [e]
 by_cases q:(atKey xs k).isSome=true
 ·rw [if_pos q,if_pos q];exact r.repl k ry
 ·rw [if_neg q,if_neg q];exact Paired.snoc r ⟨rfl,hb,ry⟩
theorem KT.keeps{H H':Hp}{kvs:List (List Key×V)}{xs:List (List Key×Addr×Value)}(r:KT H kvs xs)(ht:∀ b ys,H b=some (.tup ys)->H' b=some (.tup ys)):KT H' kvs xs :=
 Paired.mapP r fun _ _ z=>⟨z.1,ht _ _ z.2.1,z.2.2⟩
section
variable {P:Program} {w:World} {H:Hp} {h:Heap} {a:Addr}
theorem rd_of{u:HO}(ok:HOk P w H h)(e:Rd H a u):ObjOk P w H h a u:=e.ok ok
theorem dk_rd{kvs:List (Key×V)}(ok:HOk P w H h)(e:Rd H a (.dK kvs)):kvs.length<=sizeLine/\(a == sysModules)=false/\∃ vs,KV kvs vs/\h.DictOf (mixKind P w) a vs :=
 show ObjOk P w H h a (.dK kvs) from rd_of ok e
theorem dk_of{kvs:List (Key×V)}(ok:HOk P w H h)(e:H a=some (.dK kvs)):kvs.length<=sizeLine/\(a == sysModules)=false/\∃ vs,KV kvs vs/\h.DictOf (mixKind P w) a vs:=dk_rd ok (.inl e)
theorem key_of{ks:List Key}(ok:HOk P w H h)(e:H a=some (.tup (ks.map kV))):(tupleKind (mixKind P w)).is h ks a:=by
 obtain ⟨_,its,r,o,h1,h2,n,h3⟩:=(show ObjOk P w H h a (.tup (ks.map kV)) from ok a _ e)
 exact ⟨o,its.toArray,n,h1,h2,h3,by simpa using items_are r⟩
theorem dt_rd{kvs:List (List Key×V)}(ok:HOk P w H h)(e:Rd H a (.dT kvs)):kvs.length<=sizeLine/\(a == sysModules)=false /\
  ∃ xs,KT H kvs xs/\h.DictOfH (tupleKind (mixKind P w)) a xs:=by
 obtain ⟨z,y,xs,r,o,es,ep,h1,h2,h3,h4,h5⟩:=(show ObjOk P w H h a (.dT kvs) from rd_of ok e)
 refine ⟨z,y,xs,r,o,es,ep,h1,h2,h3,h4,fun x hx=>?_,h5⟩
 have all:∀ {l:List (List Key×V)} {m:List (List Key×Addr×Value)},KT H l m->∀ x∈m,(tupleKind (mixKind P w)).is h x.1 x.2.1:=by
  intro l m q
  induction q with
  | nil=>intro x hx;exact nomatch hx
  | @cons p q ps qs hq t ih =>
   intro x hx
   rcases List.mem_cons.mp hx with e | hx
   ·subst e
    exact key_of ok (by rw [<-hq.1];exact hq.2.1)
   ·exact ih x hx
 exact all r x hx
theorem dt_of{kvs:List (List Key×V)}(ok:HOk P w H h)(e:H a=some (.dT kvs)):kvs.length<=sizeLine/\(a == sysModules)=false /\
  ∃ xs,KT H kvs xs/\h.DictOfH (tupleKind (mixKind P w)) a xs:=dt_rd ok (.inl e)
end
def DGet(H:Hp)(a:Addr)(y:V)(r:Option V):Prop :=
 (∃ kvs k,Rd H a (.dK kvs)/\y=kV k/\r=valV kvs k)\/∃ kvs k b,Rd H a (.dT kvs)/\y = .ref b/\H b=some (.tup (k.map kV))/\r=valV kvs k
def DPut(H:Hp)(a:Addr)(y v:V)(H':Hp):Prop :=
 (∃ kvs k,H a=some (.dK kvs)/\y=kV k/\kvs.length<sizeLine/\H'=upd H a (.dK (putK kvs k v))) \/
 ∃ kvs k b,H a=some (.dT kvs)/\y = .ref b/\H b=some (.tup (k.map kV))/\kvs.length<sizeLine/\H'=upd H a (.dT (putK kvs k v))
theorem DGet.k{H:Hp}{a:Addr}{kvs:List (Key×V)}{k:Key}(e:H a=some (.dK kvs)):DGet H a (kV k) (valV kvs k):=.inl ⟨kvs,k,.inl e,rfl,rfl⟩
theorem DPut.k{H:Hp}{a:Addr}{kvs:List (Key×V)}{k:Key}{v:V}(e:H a=some (.dK kvs))(hl:kvs.length<sizeLine):DPut H a (kV k) v (upd H a (.dK (putK kvs k v))):=.inl ⟨kvs,k,e,rfl,hl,rfl⟩
section
variable {X:Cx} {pins:List (Addr×Obj)} {σ:St} {H:Hp} {s:Shared} {a:Addr} {y v:V} {u r:Value} {o:Option V} {A:Around} {E:Value->Shared->Prop}
theorem Inv.big(I:Inv X pins σ H s):sysModules<s.heap.objs.size:=by
 have h:mainGlobals<s.heap.objs.size:=(I.mod.glob.keeps I.bk).lt
 exact Nat.lt_trans (by decide) h
theorem d_getItem{Q:Value->Shared->Prop}(hu:A.units+1<cLine)(I:Inv X pins σ H s)(g:DGet H a y (some v))(ry:RelV y u)(h:∀ w' s',Inv X pins σ H s'->RelV v w'->Q w' s') :
  wpAny (model X.prog X.w) A (getItem (.ref a) u) Q E s:=by
 rcases g with ⟨kvs,k,e,ey,l⟩ | ⟨kvs,k,b,e,ey,eb,l⟩
 ·subst ey
  obtain ⟨z,hd,vs,rel,dd⟩:=dk_rd I.hok e
  obtain ⟨w',hw,rw'⟩:=RelO.some_of (v:=v) (o:=valueAt vs k) (by rw [l];exact rel.val k)
  exact wpAny_getItem_of (kV_is ry) dd.mapOf hw (h w' _ (I.tok _) rw')
 ·subst ey
  cases (show u=Value.ref b from ry)
  obtain ⟨z,hd,xs,rel,dd⟩:=dt_rd I.hok e
  obtain ⟨w',hw,rw'⟩:=RelO.some_of (v:=v) (o:=(atKey xs k).map (·.2)) (by rw [l];exact rel.val k)
  obtain ⟨p,hp,hp2⟩:=Option.map_eq_some_iff.mp hw
  refine wpAny_getItem_heap (tupleKind_room_in1 hu) (key_of I.hok eb) dd hp ?_
  rw [hp2]
  exact h w' _ (I.tok _) rw'
theorem d_in{Q:Value->Shared->Prop}(hu:A.units+1<cLine)(I:Inv X pins σ H s)(g:DGet H a y o)(ry:RelV y u)(h:∀ s',Inv X pins σ H s'->Q (.bool o.isSome) s') :
  wpAny (model X.prog X.w) A (compareOp .In u (.ref a)) Q E s:=by
 rcases g with ⟨kvs,k,e,ey,l⟩ | ⟨kvs,k,b,e,ey,eb,l⟩
 ·subst ey
  obtain ⟨z,hd,vs,rel,dd⟩:=dk_rd I.hok e
  refine wpAny_in_of (kV_is ry) hd dd.mapOf ?_
  rw [<-(rel.val k).isSome_eq,<-l]
  exact h _ (I.tok _)
 ·subst ey
  cases (show u=Value.ref b from ry)
  obtain ⟨z,hd,xs,rel,dd⟩:=dt_rd I.hok e
  refine wpAny_in_heap (tupleKind_room_in1 hu) (key_of I.hok eb) hd dd ?_
  have q:=(rel.val k).isSome_eq
  rw [Option.isSome_map] at q
  rw [<-q,<-l]
  exact h _ (I.tok _)
theorem d_write{h':Heap}{t':Nat}{ob:HO}(I:Inv X pins σ H s)(mu:Mut (H a))(hs:Heap.SameBut a s.heap h')(he:∃ q,h'.get? a=some q)(new:ObjOk X.prog X.w (upd H a ob) h' a ob) :
  Inv X pins σ (upd H a ob) { s with heap:=h',toks:=t' } :=
 I.write (x:=a) (e:=a) mu (.inl rfl) (fun b q hb z=>(hs.2 b hb).trans z) he new
theorem dk_new{P:Program}{w:World}{H':Hp}{h':Heap}{kvs:List (Key×V)}{vs:List (Key×Value)}(z:kvs.length<=sizeLine)(hd:(a == sysModules)=false)(rel:KV kvs vs)(dd:h'.DictOf (mixKind P w) a vs) :
  ObjOk P w H' h' a (.dK kvs):=⟨z,hd,vs,rel,dd⟩
theorem d_setItem{H':Hp}{Q:Unit->Shared->Prop}(hu:A.units+1<cLine)(I:Inv X pins σ H s)(g:DPut H a y v H')(ry:RelV y u)(rv:RelV v r)(h:∀ s',Inv X pins σ H' s'->Q () s') :
  wpAny (model X.prog X.w) A (setItem (.ref a) u r) Q E s:=by
 rcases g with ⟨kvs,k,e,ey,l,eH⟩ | ⟨kvs,k,b,e,ey,eb,l,eH⟩
 ·subst ey eH
  obtain ⟨z,hd,vs,rel,dd⟩:=dk_of I.hok e
  have hz:vs.length<=sizeLine:=by rw [<-rel.length];exact z
  have hl:(putK kvs k v).length<=sizeLine:=by have:=x_q kvs k v;lia
  refine wpAny_setItem_pairs (hsz:=hz) (kV_is ry) dd fun h' dd' hs=>h _ ?_
  have he:∃ q,h'.get? a=some q:=let ⟨q,_,_,hq,_⟩:=dd';⟨q,hq⟩
  exact d_write I (by rw [e];exact True.intro) hs he (dk_new hl hd (rel.put k rv) dd')
 ·subst ey eH
  cases (show u=Value.ref b from ry)
  obtain ⟨z,hd,xs,rel,dd⟩:=dt_of I.hok e
  have hz:xs.length<=sizeLine:=by rw [<-Paired.length rel];exact z
  have hl:(putK kvs k v).length<=sizeLine:=by have:=x_q kvs k v;lia
  refine wpAny_setItem_heap (hsz:=hz) (tupleKind_room_in1 hu) (key_of I.hok eb) dd fun h' dd' hs=>h _ ?_
  obtain ⟨q,es,ep,hq,h2,h3,h4,_,h5⟩:=dd'
  refine d_write I (by rw [e];exact True.intro) hs ⟨q,hq⟩ ⟨hl,hd,_,(rel.put k eb rv).keeps fun c ys ec=>?_,q,es,ep,hq,h2,h3,h4,h5⟩
  rw [z_j (ne_of ec e (fun z=>nomatch z))]
  exact ec
end
def NoSl(i:Expr):Prop:=∀ ov iv,subscripted i false ov iv=operate [ov,iv] (getItem ov iv)
theorem subD_of{prog:Program}{w:World}{A:Around}{E:Value->Shared->Prop}{s:Shared}{env:Env}{value slice:Expr}{pos:Pos}{T id:String}{Q:Value->Shared->Prop}
  (hl:typeLookup (.type T) "__getitem__" = pure (some (.builtin id))) (hs:NoSl slice)
  (h:wpAny (model prog w) A (eval value env) (fun o s₁=>wpAny (model prog w) A (eval slice env) (fun i s₂=>s₂.TypeIs o T/\wpAny (model prog w) A (getItem o i) Q E s₂) E s₁) E s) :
  wpAny (model prog w) A (eval (.Subscript value slice pos) env) Q E s:=by
 refine Subscript_ (wpAny_mono h (fun o s₁ h₁=>wpAny_mono h₁ (fun i s₂ h₂=>?_) fun _ _ x=>x) fun _ _ x=>x)
 obtain ⟨hT,h₂⟩:=h₂
 unfold subscriptTail
 refine wpAny_bind ?_
 rw [getitemInPython_of_ne hT.not_modules]
 refine wpAny_bind (wpAny_specialOf hT hl ?_)
 have fin:wpAny (model prog w) A (subscripted slice false o i) (fun r s₃=>wpAny (model prog w) A (letTemporaryGo value o r >>= fun _=>pure r) Q E s₃) E s₂:=by
  rw [hs o i]
  exact wpAny_operating (wpAny_mono h₂ (fun r s₃ h₃=>wpAny_bind (wpAny_letTemporaryGo (wpAny_pure h₃))) fun _ _ x=>x)
 first
  | exact wpAny_pure (wpAny_bind fin)
  | exact wpAny_bind (wpAny_pure (wpAny_bind fin))
  | exact wpAny_bind fin
theorem dict_typeIs{X:Cx}{pins:List (Addr×Obj)}{σ:St}{H:Hp}{s:Shared}{a:Addr}{y:V}{o:Option V}(I:Inv X pins σ H s)(g:DGet H a y o):s.TypeIs (.ref a) "dict" := by
 rcases g with ⟨kvs,k,e,_,_⟩ | ⟨kvs,k,b,e,_,_,_⟩
 ·obtain ⟨_,_,vs,_,dd⟩:=dk_rd I.hok e
  exact dd.typeIs
 ·obtain ⟨_,_,xs,_,dd⟩:=dt_rd I.hok e
  exact dd.typeIs
def tDGet(td ty:TE):TE:=fun σ H Q=>td σ H fun x H1=>ty σ H1 fun y H2=>∃ a v,x = .ref a/\DGet H2 a y (some v)/\Q v H2
def tDIn(ty td:TE):TE:=fun σ H Q=>ty σ H fun y H1=>td σ H1 fun x H2=>∃ a o,x = .ref a/\DGet H2 a y o/\Q (.bl o.isSome) H2
def sDPut(td ty tv:TE):TS:=fun D σ H=>tv σ H fun v H1=>td σ H1 fun x H2=>ty σ H2 fun y H3=>∃ a H4,x = .ref a/\DPut H3 a y v H4/\D.nx σ H4
section
variable {X:Cx} {o i e value:Expr} {pos pos' tpos:Pos} {td ty tv:TE}
theorem pe_dget(hu:X.A.units+1<cLine)(ho:PE X o td)(hi:PE X i ty)(hs:NoSl i):PE X (.Subscript o i pos) (tDGet td ty):=by
 intro pins s σ H Q I h
 refine subD_of PySem.F.slot_dict_getitem.lookup hs (thn (ho pins s σ H _ I h) fun u s1 ⟨x,H1,I1,rx,q1⟩=>thn (hi pins s1 σ H1 _ I1 q1) fun iv s2 ⟨y,H2,I2,ry,a,v,ex,g,q2⟩=>?_)
 subst ex
 obtain rfl:u=Value.ref a:=rx
 exact ⟨dict_typeIs I2 g,d_getItem hu I2 g ry fun w' s3 I3 rw'=>⟨v,H2,I3,rw',q2⟩⟩
theorem pc_din(hu:X.A.units+1<cLine)(hi:PE X i ty)(ho:PE X o td):PC X .In i o (tDIn ty td):=by
 intro pins s σ H Q I h
 refine thn (hi pins s σ H _ I h) fun iv s1 ⟨y,H1,I1,ry,q1⟩=>thn (ho pins s1 σ H1 _ I1 q1) fun u s2 ⟨x,H2,I2,rx,a,ov,ex,g,q2⟩=>?_
 subst ex
 obtain rfl:u=Value.ref a:=rx
 exact d_in hu I2 g ry fun s3 I3=>⟨.bl ov.isSome,H2,I3,rfl,q2⟩
theorem ps_dput(hu:X.A.units+1<cLine)(ho:PE X o td)(hi:PE X i ty)(hv:PE X value tv)(hs:swapsWith value (some (.Subscript o i pos')) pos.line X.env=pure false) :
  PS X (.Assign [.Subscript o i pos'] value pos) (sDPut td ty tv):=by
 intro pins s σ H D I h
 refine wpAny_Assign_Subscript (thn (hv pins s σ H _ I h) fun r s1 ⟨v,H1,I1,rv,q1⟩=>thn (ho pins s1 σ H1 _ I1 q1) fun u s2 ⟨x,H2,I2,rx,q2⟩=>thn (hi pins s2 σ H2 _ I2 q2) fun iv s3 ⟨y,H3,I3,ry,a,H4,ex,g,q3⟩=>?_) hs
 subst ex
 obtain rfl:u=Value.ref a:=rx
 exact d_setItem hu I3 g ry rv fun s4 I4=>⟨σ,H4,I4,q3⟩
end
theorem dk_empty{P:Program}{w:World}{H:Hp}(h:Heap)(hb:sysModules<h.objs.size):ObjOk P w H (h.push { cls:=.type "dict",data:=.dict #[] }) h.objs.size (.dK []) :=
 ⟨Nat.zero_le _,beq_eq_false_iff_ne.mpr (Ne.symm (Nat.ne_of_lt hb)),[],.nil,Heap.DictOf.new h⟩
def tDNewK:TE:=fun _ H Q=>∀ p,H p=none->Q (.ref p) (upd H p (.dK []))
section
variable {X:Cx} {pos:Pos}
theorem pe_dnewK:PE X (.Dict [] [] pos) tDNewK:=fun pins s σ H Q I h =>
 wpAny_Dict_empty ⟨.ref s.heap.objs.size,_,I.laid (a:=s.heap.objs.size) (o:=.dK []) (t':=s.toks) (fun _ _ q=>Heap.get?_push_of_some _ q) (Nat.le_refl _) (dk_empty s.heap I.big),rfl,h _ (I.hok.fresh (Nat.le_refl _))⟩
end
def tPairs:List (TE×TE)->St->Hp->(List (V×V)->Hp->Prop)->Prop
 | [],_,H,Q=>Q [] H
 | (tk,tv)::r,σ,H,Q=>tk σ H fun x H1=>tv σ H1 fun y H2=>tPairs r σ H2 fun ps H3=>Q ((x,y)::ps) H3
abbrev VV:List (V×V)->List (Value×Value)->Prop:=Paired fun p q=>RelV p.1 q.1/\RelV p.2 q.2
def PPs(X:Cx)(pos:Pos)(keys:List (Option Expr))(values:List Expr)(trs:List (TE×TE)):Prop :=
 ∀ (pins:List (Addr×Obj)) (s:Shared) (σ:St) (H:Hp) (Q:List (V×V)->Hp->Prop),Inv X pins σ H s->tPairs trs σ H Q ->
  wpAny (model X.prog X.w) X.A (evalPairs (pairTrees keys values X.env pos)) (fun vs s'=>∃ ps H',Inv X pins σ H' s'/\VV ps vs/\Q ps H') X.xe s
theorem pps_nil{X:Cx}{pos:Pos}:PPs X pos [] [] []:=fun pins s σ H Q I h=>pairTrees_nil_walk ⟨[],H,I,.nil,h⟩
theorem pps_cons{X:Cx}{pos:Pos}{k v:Expr}{ks:List (Option Expr)}{vs:List Expr}{tk tv:TE}{trs:List (TE×TE)}(hk:PE X k tk)(hv:PE X v tv)(hr:PPs X pos ks vs trs) :
  PPs X pos (some k::ks) (v::vs) ((tk,tv)::trs):=fun pins s σ H Q I h =>
 pairTrees_cons_walk (thn (hk pins s σ H _ I h) fun u s1 ⟨x,H1,I1,rx,q1⟩=>thn (hv pins s1 σ H1 _ I1 q1) fun w2 s2 ⟨y,H2,I2,ry,q2⟩ =>
  thn (hr pins s2 σ H2 _ I2 q2) fun ws s3 ⟨ps,H3,I3,rel,q3⟩=>⟨(x,y)::ps,H3,I3,.cons ⟨rx,ry⟩ rel,q3⟩)
def mergeK(kvs more:List (Key×V)):List (Key×V):=more.foldl (fun acc kv=>putK acc kv.1 kv.2) kvs
theorem KV.merge:∀ {more:List (Key×V)} {rs:List (Key×Value)} {kvs:List (Key×V)} {vs:List (Key×Value)},KV more rs->KV kvs vs->KV (mergeK kvs more) (merged vs rs):=by
 intro more rs kvs vs r
 unfold KV at r
 induction r generalizing kvs vs with
 | nil=>intro q;exact q
 | @cons p q ps qs h t ih =>
  intro r0
  have e:KV (putK kvs p.1 p.2) (stored vs q.1 q.2):=by
   have:=r0.put p.1 h.2
   rw [<-h.1];exact this
  exact ih e
theorem length_mergeK:∀ (more kvs:List (Key×V)),(mergeK kvs more).length<=kvs.length+more.length
 | [],kvs=>by show kvs.length<=kvs.length+0;lia
 | p::r,kvs=>by
  have h1:=length_mergeK r (putK kvs p.1 p.2)
  have h2:=x_q kvs p.1 p.2
  show (mergeK (putK kvs p.1 p.2) r).length<=_
  rw [List.length_cons];lia
theorem carries_of{P:Program}{w:World}:∀ {kvs:List (Key×V)} {ws:List (Value×Value)},VV (kvs.map fun kv=>(kV kv.1,kv.2)) ws->∃ rs,Carries (mixKind P w) ws rs/\KV kvs rs
 | [],_,r=>by rw [List.map_nil] at r;cases r;exact ⟨[],True.intro,.nil⟩
 | p::kvs,_,r=>by
  rw [List.map_cons] at r
  cases r with
  | @cons a b as bs h t =>
   obtain ⟨rs,c,q⟩:=carries_of (P:=P) (w:=w) t
   obtain ⟨b1,b2⟩:=b
   exact ⟨(p.1,b2)::rs,⟨kV_is h.1,rfl,c⟩,.cons ⟨rfl,h.2⟩ q⟩
def tDisp(trs:List (TE×TE)):TE:=fun σ H Q=>∀ p,H p=none->tPairs trs σ (upd H p (.dK [])) fun ps H2=>H2 p=some (.dK [])/\∃ kvs:List (Key×V),ps=kvs.map (fun kv=>(kV kv.1,kv.2))/\kvs.length<=15/\Q (.ref p) (upd H2 p (.dK (mergeK [] kvs)))
theorem pe_disp{X:Cx}{pos:Pos}{keys:List (Option Expr)}{values:List Expr}{trs:List (TE×TE)}(h:PPs X pos keys values trs)(hall:keys.all (·.isSome)=true)(hl:keys.length=values.length)(h0:keys≠[])
  (h15:keys.length<=15):PE X (.Dict keys values pos) (tDisp trs):=by
 intro pins s σ H Q I q
 have hn:=I.hok.fresh (Nat.le_refl s.heap.objs.size)
 have I1:=I.laid (a:=s.heap.objs.size) (o:=.dK []) (h':=s.heap.push { cls:=.type "dict",data:=.dict #[] }) (t':=s.toks) (fun _ _ q=>Heap.get?_push_of_some _ q) (Nat.le_refl _) (dk_empty s.heap I.big)
 refine wpAny_Dict_walk (knd:=mixKind X.prog X.w) hall hl h0 h15 (thn (h pins _ σ _ _ I1 (q _ hn)) fun ws s2 ⟨ps,H2,I2,rel,e,kvs,ep,lk,q2⟩=>?_)
 subst ep
 obtain ⟨rs,c,rk⟩:=carries_of (P:=X.prog) (w:=X.w) rel
 obtain ⟨z,hd,vs0,r0,dd⟩:=dk_of I2.hok e
 cases r0
 refine ⟨rs,c,dd,fun h' dd' hs=>⟨.ref s.heap.objs.size,_,?_,rfl,q2⟩⟩
 have hz:(mergeK [] kvs).length<=sizeLine:=by
  have h1:=length_mergeK kvs []
  rw [List.length_nil] at h1
  rw [sizeLine_eq];lia
 have he:∃ q,h'.get? s.heap.objs.size=some q:=let ⟨q,_,_,hq,_⟩:=dd';⟨q,hq⟩
 exact d_write I2 (by rw [e];exact True.intro) hs he (dk_new hz hd (rk.merge .nil) dd')
structure M2(X:Cx)(o:Expr)(m:Str)(apos:Pos)(e f:Expr)(cpos:Pos):Prop where
 base:attributeBase o m X.env (eval o X.env)=eval o X.env
 few:((backTo cpos (starEach [e,f] X.env)).all (fun x=>!x.1)&&(backToKw cpos (keywordEach [] X.env)).all (fun x=>x.1.isSome)
  && decide (([e,f]:List Expr).length+([]:List Keyword).length+(if ([]:List Keyword).isEmpty then 0 else 1)<30))=true
 line:(apos.endLine == cpos.line)=true
 trees:backTo cpos (starEach [e,f] X.env)=[(false,eval e X.env),(false,eval f X.env)]
def IsD(H:Hp)(a:Addr):Prop:=(∃ kvs,Rd H a (.dK kvs))\/∃ kvs,Rd H a (.dT kvs)
theorem isD_at{X:Cx}{pins:List (Addr×Obj)}{σ:St}{H:Hp}{s:Shared}{a:Addr}(I:Inv X pins σ H s)(d:IsD H a) :
  s.TypeIs (.ref a) "dict" /\ (∀ b,Value.ref a = .ref b->∃ ob,s.heap.get? b=some ob/\ob.dict=none)/\(a == sysModules)=false:=by
 rcases d with ⟨kvs,e⟩ | ⟨kvs,e⟩
 ·obtain ⟨_,hd,vs,_,dd⟩:=dk_rd I.hok e
  refine ⟨dd.typeIs,fun b q=>?_,hd⟩
  cases q
  obtain ⟨ob,_,_,h1,h2,_⟩:=dd
  exact ⟨ob,h1,h2.2.1⟩
 ·obtain ⟨_,hd,xs,_,dd⟩:=dt_rd I.hok e
  refine ⟨dd.typeIs,fun b q=>?_,hd⟩
  cases q
  obtain ⟨ob,_,_,h1,h2,_⟩:=dd
  exact ⟨ob,h1,h2.2.1⟩
section
variable {X:Cx} {pins:List (Addr×Obj)} {σ:St} {H:Hp} {s:Shared} {a:Addr} {y d:V} {u r:Value} {o:Option V} {A:Around} {E:Value->Shared->Prop}
theorem d_get2{Q:Value->Shared->Prop}(hu:A.units+1<cLine)(I:Inv X pins σ H s)(g:DGet H a y o)(ry:RelV y u)(rd:RelV d r)(h:∀ w' s',Inv X pins σ H s'->RelV (o.getD d) w'->Q w' s') :
  wpAny (model X.prog X.w) A (call (.builtin "dict.get") [.ref a,u,r]) Q E s:=by
 rcases g with ⟨kvs,k,e,ey,l⟩ | ⟨kvs,k,b,e,ey,eb,l⟩
 ·subst ey
  obtain ⟨z,hd,vs,rel,dd⟩:=dk_rd I.hok e
  refine call_meetsIn PySem.F.slot_dict_get dd.typeIs PySem.F.entry_dict_get (PySem.F.args_dict_get_3 _ _ _) (meets_dict_get_default (mixKind X.prog X.w) a (kV_is ry) hd r) ⟨_,dd.mapOf,h _ _ (I.tok _) ?_⟩
  rw [l]
  exact (rel.val k).getD rd
 ·subst ey
  cases (show u=Value.ref b from ry)
  obtain ⟨z,hd,xs,rel,dd⟩:=dt_rd I.hok e
  refine call_meetsIn PySem.F.slot_dict_get dd.typeIs PySem.F.entry_dict_get (PySem.F.args_dict_get_3 _ _ _) (meetsH_dict_get_default (tupleKind (mixKind X.prog X.w)) a b hd r) ⟨tupleKind_room_in1 hu,k,xs,key_of I.hok eb,dd,h _ _ (I.tok _) ?_⟩
  rw [l]
  exact (rel.val k).getD rd
end
def tDGet2(td ty tx:TE):TE:=fun σ H Q=>td σ H fun x H1=>∃ a,x = .ref a/\IsD H1 a/\ty σ H1 fun y H2=>tx σ H2 fun z H3=>∃ o,DGet H3 a y o/\Q (o.getD z) H3
section
variable {X:Cx} {o e f:Expr} {apos cpos:Pos} {td ty tx:TE}
theorem pe_dget2(hu:X.A.units+1<cLine)(ho:PE X o td)(he:PE X e ty)(hf:PE X f tx)(m:M2 X o "get" apos e f cpos):PE X (.Call (.Attribute o "get" apos) [e,f] [] cpos) (tDGet2 td ty tx):=by
 intro pins s σ H Q I h
 refine wpAny_Call_method m.base m.few m.line PySem.F.plainAttrs_dict PySem.F.slot_dict_get PySem.F.type_dict_get (thn (ho pins s σ H _ I h) fun u s1 ⟨x,H1,I1,rx,a,ex,d,q1⟩=>?_)
 subst ex
 obtain rfl:u=Value.ref a:=rx
 obtain ⟨t1,t2,_⟩:=isD_at I1 d
 refine ⟨t1,t2,?_⟩
 rw [m.trees]
 refine Calls.callWith_builtin rfl (Calls.evalArgs_plain (Calls.spliced_cons (thn (he pins s1 σ H1 _ I1 q1) fun iv s2 ⟨y,H2,I2,ry,q2⟩ =>
  Calls.spliced_cons (thn (hf pins s2 σ H2 _ I2 q2) fun fv s3 ⟨z,H3,I3,rz,ov,g,q3⟩=>Calls.spliced_nil ?_))))
 exact d_get2 hu I3 g ry rz fun w' s4 I4 rw'=>⟨_,H3,I4,rw',q3⟩
end
end L2
namespace Att
open PySem PySem.W PySem.Calls PyProof.Rows
theorem ints_of_wellAll{P:Params}{h:Heap}:∀ (ns:List Int) (vs:List Value),WellAll P h vs (ns.map WData.int)->IntsAre vs ns:=by
 intro ns
 induction ns with
 | nil =>
  intro vs w
  rw [List.map_nil] at w
  cases w
  exact .nil
 | cons n ns ih =>
  intro vs w
  rw [List.map_cons] at w
  cases w with
  | cons a b =>
   cases a
   exact .cons _ _ (ih _ b)
theorem script_of{l:OpenLaw}{n:Nat}(hn:l.most=some n){P:Params}{h:Heap}{args:List WData}{vals:List Value}
  (hpre:l.row.toRowW.claim.pre args=true) (hwl:WellAll P h vals args) :
  ∃ a vs ns,vals=[Value.ref a]/\args=[WData.list (ns.map WData.int)]/\h.get? a=some { cls:=.type "list",data:=.seq vs.toArray }/\IntsAre vs ns/\ns.length<=n:=by
 have hsh:WShape.hasAll [] args [.list .int]=true:=(pre_splitW hpre).1
 have hc:l.pre.holds [] { args:=args }=true:=(pre_splitW hpre).2
 obtain ⟨d,r,rfl,h1,h2⟩:=hasAllW_cons hsh
 obtain rfl:=hasAllW_nil h2
 obtain ⟨xs,rfl,h3⟩:=hasW_list h1
 obtain ⟨ns,rfl⟩:=items_int h3
 have hlen:ns.length<=n:=by
  unfold OpenLaw.pre at hc
  have h4:(WTm.not (.lt (.lit (.int (n:Int))) (.len (.arg 0)))).holds [] { args:=[.list (ns.map .int)] }=true:=by
   have h4:=(holds_andW hc).1
   rw [hn] at h4
   exact h4
  have h5:=condW_of h4 (w_not (w_lt w_lit (w_len_list (w_arg rfl))))
  rw [List.length_map] at h5
  refine Nat.le_of_not_lt fun q=>?_
  have q':(n:Int)<((ns.length:Nat):Int):=by lia
  first
   | (rw [decide_eq_true q'] at h5;exact absurd h5 (by decide))
   | (simp at h5;lia)
 cases hwl with
 | cons w1 w2 =>
  cases w2
  cases w1 with
  | list ho hall=>exact ⟨_,_,ns,rfl,rfl,ho,ints_of_wellAll ns _ hall,hlen⟩
theorem post_true(l:OpenLaw)(args:List WData):l.row.toRowW.claim.post args (.bool true) args=true :=
 postW_of (r:=l.row.toRowW) (X:=(true == true))
  (show WShape.has [] (.bool true) .bool=true by first | rfl | decide | simp [WShape.has,WShape.arms,WShape.armsAll])
  (show (WTm.eq .res (.lit (.bool true))).value [] { args:=args,res:=some (.bool true),after:=args }=some (.bool (true == true)) from w_eq_bool (w_res rfl) w_lit) rfl
theorem attach_call{l:OpenLaw}{n:Nat}{q:Program}{loose:List Str}{XP:(Str->Option Value)->Heap->Prop}{YP:World->Heap->Prop}{d:DefRec}
  (hn:l.most=some n) (hdf:d.params.defaults=[])
  (call:∀ (w:World) (s₀ s₁:Shared) (mg mb:Str->Option Value) (fa:Addr) (o:Obj) (pm cd doc:Value) (a:Addr) (vs:List Value) (ns:List Int),
   Ground q loose [] XP w s₀ mg mb s₁.heap->YP w s₁.heap ->
   s₁.heap.get? fa=some o->o.data = .func (docDef d.name d.params d.body d.scope pm cd doc)->s₁.heap.CodeRec cd d.name->mg d.name=some (.ref fa) ->
   s₁.heap.get? a=some { cls:=.type "list",data:=.seq vs.toArray }->IntsAre vs ns->ns.length<=n->s₁.gens = #[] ->
   codeAny (model l.prog w) callerA (.call (.ref fa) ⟨[.ref a],[]⟩) (fun r s'=>r = .ok (.ret (.bool true))/\OldK s₁.heap s'.heap/\s'.os=s₁.os/\AllBare s'.gens) s₁) :
  WalkO q loose XP YP l.row.toRowW d [] (fun f vs=>PySem.call f vs):=by
 intro w s₀ s₁ mg mb G Y fa o pm cd doc dV kV ho hd hcd hD hmg hg args vals as hpre hlay hrd hwl hlo
 obtain rfl:dV = .none:=Dflts.none hD hdf
 obtain rfl:kV = .none:=Dflts.noKw hD
 obtain ⟨a,vs,ns,rfl,rfl,hobj,hints,hlen⟩:=script_of hn hpre hwl
 refine enter_call (codeAny_mono (call w s₀ s₁ mg mb fa o pm cd doc a vs ns G Y ho (fd_plain hd) hcd hmg hobj hints hlen hg) fun r s' hq=>?_)
 obtain ⟨rfl,h2,h3,h4⟩:=hq
 exact ⟨.inl ⟨.bool true,.bool true,[],rfl,fun _=>rfl,.bool true,post_true l _,fun _=>⟨List.Pairwise.nil,fun _ hm=>(nomatch hm)⟩⟩,h2,h3,h4⟩
end Att
namespace L2
open PySem PySem.Spec PyProof.Rows
theorem vals_ints:∀ {vs:List Value} {ns:List Int},IntsAre vs ns->Vals (ns.map V.int) vs
 | _,_,.nil=>.nil
 | _,_,.cons n t h=>.cons ⟨t,rfl⟩ (vals_ints h)
def Only(H:Hp):Prop:=∀ b,H b=none\/∃ o xs,H b=some (.frz o (.lst xs))
theorem law_call{P:Program}{w:World}{K:PySem.W.Frag}{mg mb:Str->Option Value}{CX:CXT}{k:Nat}{fa a:Addr}{fd:FuncData}{x:Str}{sp:Sp}{s₁:Shared}{vs:List Value}{ns:List Int}
  (KX:K.In s₁.heap) (hns:s₁.heap.Ns mainGlobals mg) (hb:s₁.heap.Ns builtinsNs mb) (hbb:∀ x:Str,x ≠ "__name__" -> mb x=bootBuiltins x) (hlim:s₁.heap.NoLimit) (hg:s₁.gens = #[])
  (ha:s₁.heap.get? a=some { cls:=.type "list",data:=.seq vs.toArray }) (hi:IntsAre vs ns) (hl:ns.length<=sizeLine) (hr:Room k callerA)
  (F:∀ base:Heap,K.In base->base.Ns mainGlobals mg->FnOk P w K mg base CX k fa fd [x] sp) (hbind:∀ (s:Shared) (u:Value),BindsTo s fd ⟨[u],[]⟩ [(x,u)])
  (hsp:∀ H:Hp,Only H->SqL K H a (ns.map V.int)->sp [.ref a] H (fun v _=>v = .bl true) fun _ _ _=>False)
  (hCX:∀ H e s',CX [] H s₁ (fun _ _ _=>False) e s'->False) :
  codeAny (model P w) callerA (.call (.ref fa) ⟨[.ref a],[]⟩) (fun r s'=>r = .ok (.ret (.bool true))/\OldK s₁.heap s'.heap/\s'.os=s₁.os/\AllBare s'.gens) s₁:=by
 have rv:=vals_ints hi
 have lenV:=hi.length
 have core:∀ H:Hp,Only H->SqL K H a (ns.map V.int)->HOk P w H s₁.heap->(∀ b,H b≠none->b=a)->(H a≠none->K.lookup a=none) ->
   codeAny (model P w) callerA (.call (.ref fa) ⟨[.ref a],[]⟩) (fun r s'=>r = .ok (.ret (.bool true))/\OldK s₁.heap s'.heap/\s'.os=s₁.os/\AllBare s'.gens) s₁:=by
  intro H hO hS hok hA hK
  have base_of:∀ {b:Addr} {o:Obj},s₁.heap.get? b=some o->H b=none->(hidT s₁.heap H).get? b=some o:=fun e n=>hidT_get e n
  have noA:∀ {b:Addr} {o:Obj} {es:Array DictEntry} {ep:Nat},s₁.heap.get? b=some o->o.data = .dict es ep->H b=none:=fun {b o es ep} e d=>by
   cases q:H b with
   | none=>rfl
   | some u =>
    have e':b=a:=hA b (by rw [q];simp)
    subst e'
    rw [ha] at e;cases e
    have d':Data.seq vs.toArray _=Data.dict es ep:=d
    cases d'
  have nsK:∀ {b:Addr} {m:Str->Option Value},s₁.heap.Ns b m->(hidT s₁.heap H).Ns b m:=fun {b m} ⟨o,es,ep,e,d,r⟩=>⟨o,es,ep,base_of e (noA e d),d,r⟩
  have hKb:K.In (hidT s₁.heap H):=fun b o e=>base_of (KX b o e) (by
   cases q:H b with
   | none=>rfl
   | some u =>
    have e':b=a:=hA b (by rw [q];simp)
    subst e'
    rw [hK (by rw [q];simp)] at e;cases e)
  have hM:Mod K mg (hidT s₁.heap H):=⟨hKb,nsK hns,⟨mb,nsK hb,hbb⟩,let ⟨mc,h1,h2⟩:=hlim;⟨mc,nsK h1,h2⟩⟩
  have e0:Env0 P w K mg (hidT s₁.heap H) callerA [] s₁ H:=⟨rfl,rfl,hM,fun b o e=>of_hidT e,Nat.le_of_eq (hidT_size _ _),trivial,fun b hb=>absurd (show b∈([]:List Addr) from hb) (by simp),hok,.of_eq hg⟩
  refine codeAny_mono ((F _ hKb (nsK hns)).run callerA [] s₁ H ⟨[.ref a],[]⟩ [.ref a] [.ref a] _ _ hr e0 (hbind s₁ (.ref a)) (.cons rfl .nil) (hsp H hO hS)) fun r s' h=>?_
  cases r with
  | error e=>exact (hCX H e s' h).elim
  | ok fl =>
   cases fl with
   | next=>exact False.elim h
   | brk=>exact False.elim h
   | cont=>exact False.elim h
   | ret u =>
    obtain ⟨v,H',os,bare,un,hok',r',q⟩:=h
    have q':v = .bl true:=q
    subst q'
    obtain rfl:u=Value.bool true:=r'
    refine ⟨rfl,OldK.of_keep fun b o e=>?_,os,bare⟩
    cases q:H b with
    | none=>exact un.keep b o e q (by intro z;exact absurd (show b∈([]:List Addr) from z) (by simp)) (by simp)
    | some u =>
     rcases hO b with z | ⟨ob,xs,z⟩
     ·rw [q] at z;cases z
     ·have z2:=un.frzs b ob _ z
      obtain ⟨e1,_⟩:=hok b _ z
      obtain ⟨e2,_⟩:=hok' b _ z2
      rw [e] at e1;cases e1
      exact e2
 cases hk:K.lookup a with
 | some o =>
  have e:=KX a o hk
  rw [ha] at e
  cases e
  refine core (fun _=>none) (fun _=>.inl rfl) (.inr ⟨_,vs.toArray,_,hk,rfl,rfl,rfl,by rw [List.size_toArray,lenV];exact hl,by simpa using rv⟩) (fun b u z=>by have z':(none:Option HO)=some u:=z;cases z') (fun b z=>absurd rfl z) fun z=>absurd rfl z
 | none =>
  refine core (fun b=>if b=a then some (.frz { cls:=.type "list",data:=.seq vs.toArray } (.lst (ns.map V.int))) else none) (fun b=>?_) (.inl (.inr ⟨{ cls:=.type "list",data:=.seq vs.toArray },if_pos rfl⟩)) (fun b u z=>?_) (fun b z=>?_) fun _=>hk
  ·by_cases hb:b=a
   ·exact .inr ⟨_,_,if_pos hb⟩
   ·exact .inl (if_neg hb)
  ·by_cases hb:b=a
   ·have z':=(if_pos hb).symm.trans z
    cases z'
    subst hb
    exact ⟨ha,by rw [List.length_map];exact hl,vs,_,rv,ha⟩
   ·have z':=(if_neg hb).symm.trans z
    cases z'
  ·by_cases hb:b=a
   ·exact hb
   ·exact absurd (if_neg hb) z
theorem walk_of{l:PySem.W.OpenLaw}{n k:Nat}{q:Program}{loose:List Str}{XP:(Str->Option Value)->Heap->Prop}{YP:World->Heap->Prop}{d:DefRec}{K:Params->PySem.W.Frag}{CX:World->CXT}{sp:World->Sp}{x:Str}
  (hn:l.most=some n) (hn2:n<=sizeLine) (hdf:d.params.defaults=[]) (hr:Room k callerA)
  (hY:∀ (w:World) (h:Heap),YP w h->(K w.params).In h)
  (F:∀ (w:World) (mg:Str->Option Value) (fa:Addr) (h:Heap),(K w.params).In h->h.Ns mainGlobals mg->mg d.name=some (.ref fa) ->
   ∃ fd:FuncData,(∀ (s:Shared) (u:Value),BindsTo s fd ⟨[u],[]⟩ [(x,u)]) /\
    ∀ base:Heap,(K w.params).In base->base.Ns mainGlobals mg->FnOk l.prog w (K w.params) mg base (CX w) k fa fd [x] (sp w))
  (hsp:∀ (w:World) (H:Hp) (a:Addr) (ns:List Int),ns.length<=n->Only H->SqL (K w.params) H a (ns.map V.int)->sp w [.ref a] H (fun v _=>v = .bl true) fun _ _ _=>False)
  (hCX:∀ (w:World) (H:Hp) (s:Shared) (e:Value) (s':Shared),CX w [] H s (fun _ _ _=>False) e s'->False) :
  PySem.W.WalkO q loose XP YP l.row.toRowW d [] (fun f vs=>PySem.call f vs):=by
 refine Att.attach_call hn hdf fun w s₀ s₁ mg mb fa o pm cd doc a vs ns G Y ho hd hcd hmg hobj hints hlen hg=>?_
 have KX:=hY w _ Y
 obtain ⟨fd,hb,hF⟩:=F w mg fa _ KX G.T.g hmg
 exact law_call KX G.T.g G.T.b G.T.builtins G.T.nolimit hg hobj hints (Nat.le_trans hlen hn2) hr hF hb (fun H hO hS=>hsp w H a ns hlen hO hS) fun H e s'=>hCX w H s₁ e s'
def z_q(s:Stmt):Arguments:=match s with
 | .FunctionDef _ a _ _ _ _ _ _ _ _=>a
 | _=>{ posonlyargs:=[],args:=[],vararg:=none,kwonlyargs:=[],kw_defaults:=[],kwarg:=none,defaults:=[] }
def z_m(s:Stmt):List Stmt:=match s with
 | .FunctionDef _ _ b _ _ _ _ _ _ _=>b
 | _=>[]
def z_h(s:Stmt):Scope:=match s with
 | .FunctionDef _ _ _ _ _ _ sc _ _ _=>sc
 | _=>{ kind:=.function,names:=[],isGenerator:=false,isCoroutine:=false }
abbrev CX0:CXT:=fun _ _ _ _ _ _=>False
abbrev E0:XK:=fun _ _ _=>False
theorem pass0{X:Cx}:Passes CX0 X E0:=fun _ _ _ _ _ _ _ h=>h.elim
structure Fun(K:PySem.W.Frag)(x qual:Str)(st:Stmt)(f:Addr)(fd:FuncData):Prop where
 ex:∃ (oc:Value) (od:Option Addr) (kV doc pm:Value) (an:Option Addr) (cdv ct:Value) (osl:Array (Option Value)),
  fd=PySem.W.fnOf x qual (z_q st) (z_m st) (z_h st) .none kV doc pm an cdv ct/\K.lookup f=some ⟨oc,od,.func fd,osl⟩/\PySem.W.codeIn K cdv qual=true
 kp:PySem.W.keepIn K (.ref f)=true
section
variable {P:Program} {w:World} {K:PySem.W.Frag} {mg:Str->Option Value} {base:Heap}
theorem Fun.ok{x qual:Str}{st:Stmt}{f:Addr}{fd:FuncData}{N ps:List Str}{k:Nat}{sp:Sp}(F:Fun K x qual st f fd)(S:FnScope N ps (z_h st))(len:∀ vs H Q E,sp vs H Q E->vs.length=ps.length)
  (hbody:∀ (cdv:Value) (A:Around) (outer:List Env) (s:Shared) (H:Hp) (vs:List V) (Q:VK) (E:XK),Room k (A.deeper (envOfC qual (z_h st) s.heap.objs.size f cdv))->sp vs H Q E ->
   ∃ t,PSs (cxOf CX0 P w K mg base N qual (z_h st) f cdv A outer s H E).nox (z_m st) t/\t { nx:=fun _ H'=>Q .non H',rt:=Q } (start N vs) H):FnOk P w K mg base CX0 (k+1) f fd ps sp:=by
 obtain ⟨oc,od,kV,doc,pm,an,cdv,ct,osl,rfl,lk,hcd⟩:=F.ex
 refine fn_of lk hcd S len fun A outer s H vs Q E hr hsp=>?_
 obtain ⟨t,h,q⟩:=hbody cdv A outer s H vs Q E hr hsp
 exact ⟨t,h.nox,q⟩
theorem Fun.binds{x qual:Str}{st:Stmt}{f:Addr}{fd:FuncData}{ps:List Str}(F:Fun K x qual st f fd)
  (h:∀ (kV doc pm:Value) (an:Option Addr) (cdv ct:Value) (us:List Value),us.length=ps.length->bindArgs (PySem.W.fnOf x qual (z_q st) (z_m st) (z_h st) .none kV doc pm an cdv ct) ⟨us,[]⟩=pure (ps.zip us)):Binds K fd ps []:=by
 obtain ⟨oc,od,kV,doc,pm,an,cdv,ct,osl,rfl,lk,hcd⟩:=F.ex
 exact .all (h kV doc pm an cdv ct)
theorem y_t{x qual:Str}{st:Stmt}{f:Addr}{oc:Value}{od an:Option Addr}{osl:Array (Option Value)}{kV doc pm cdv ct:Value}(l:K.lookup f=some ⟨oc,od,.func (PySem.W.fnOf x qual (z_q st) (z_m st) (z_h st) .none kV doc pm an cdv ct),osl⟩)
  (c:PySem.W.codeIn K cdv qual=true) (k:PySem.W.keepIn K (.ref f)=true):Fun K x qual st f (PySem.W.fnOf x qual (z_q st) (z_m st) (z_h st) .none kV doc pm an cdv ct):=⟨⟨oc,od,kV,doc,pm,an,cdv,ct,osl,rfl,l,c⟩,k⟩
end
theorem hu_of{A:Around}{k:Nat}(hr:Room k A):A.units+1<cLine:=Nat.lt_of_le_of_lt (Nat.add_le_add_left (by decide:1<=64) _) hr.units
section
variable {X:Cx}
theorem pv(i:Nat){x:Str}{pos:Pos}(hN:X.N[i]? = some x:=by rfl)(hv:Vis X.env.scope x:=by first | exact Or.inl rfl | exact Or.inr (Or.inl rfl) | exact Or.inr (Or.inr rfl))(hd:(x == ("__debug__" : Str))=false:=by decide)
  (hcd:(x == ("__classdict__" : Str))=false:=by decide):PE X (.Name x pos) (tVar i):=pe_var hN hv hd hcd
end
theorem iteF{A B:Prop}(h:B):if false=true then A else B:=by
 rw [if_neg Bool.false_ne_true]
 exact h
theorem iteT{A B:Prop}(h:A):if true=true then A else B:=by
 rw [if_pos rfl]
 exact h
theorem ite2{c A B:Prop}[Decidable c](h1:c->A)(h2:¬c->B):if c then A else B:=by
 by_cases h:c
 ·rw [if_pos h]
  exact h1 h
 ·rw [if_neg h]
  exact h2 h
def Same(H H':Hp):Prop:=∀ b o,H b=some o->H' b=some o
theorem Same.refl(H:Hp):Same H H:=fun _ _ h=>h
theorem Same.trans{H H1 H2:Hp}(a:Same H H1)(b:Same H1 H2):Same H H2:=fun c o h=>b c o (a c o h)
theorem Same.free{H H':Hp}(e:Same H H'){l:Addr}(h:H' l=Option.none):H l=Option.none:=by
 cases q:H l with
 | none=>rfl
 | some o =>
  rw [e l o q] at h
  cases h
end L2
namespace L2
open PySem PySem.Spec PyProof.Rows
end L2
namespace L2
open PySem PySem.Spec PyProof.Rows
def clOf(env:Env):List (Str×NameKind)->List (Str×Addr)->List (Str×Addr)
 | [],acc=>acc
 | (n,k)::r,acc=>if (k == NameKind.free)=true then clOf env r ((n,(env.cells.lookup n).getD 0)::acc) else clOf env r acc
theorem x_p{env:Env}{x:Str}:∀ (l:List (Str×NameKind)) (acc:List (Str×Addr)),
  (clOf env l acc).lookup x=if (l.any fun p=>(p.1 == x)&&(p.2 == NameKind.free))=true then some ((env.cells.lookup x).getD 0) else acc.lookup x
 | [],acc=>by simp [clOf]
 | (n,k)::r,acc=>by
  unfold clOf
  by_cases hk:(k == NameKind.free)=true
  ·rw [if_pos hk,x_p r]
   by_cases hr:(r.any fun p=>(p.1 == x)&&(p.2 == NameKind.free))=true
   ·rw [if_pos hr,if_pos]
    rw [List.any_cons,hr,Bool.or_true]
   ·rw [if_neg hr]
    have hr':(r.any fun p=>(p.1 == x)&&(p.2 == NameKind.free))=false:=(Bool.not_eq_true _).mp hr
    rw [List.any_cons,hr',Bool.or_false,hk,Bool.and_true,List.lookup_cons]
    by_cases hn:n=x
    ·subst hn
     simp
    ·have h1:(n == x)=false:=by simpa using hn
     have h2:(x == n)=false:=by simpa using fun z=>hn (Eq.symm z)
     simp [h1,h2]
  ·rw [if_neg hk,x_p r]
   have hk':(k == NameKind.free)=false:=by simpa using hk
   rw [List.any_cons,hk',Bool.and_false,Bool.false_or]
theorem closure_clOf{env:Env}{scope:Scope}(h:∀ n k,(n,k)∈scope.names->(k == NameKind.free)=true->(env.cells.lookup n).isSome=true):closureFor scope env=pure (clOf env scope.names []):=by
 have go:∀ (l:List (Str×NameKind)) (acc:List (Str×Addr)),(∀ n k,(n,k)∈l->(k == NameKind.free)=true->(env.cells.lookup n).isSome=true) ->
   (forIn l acc (fun (x:Str×NameKind) (r:List (Str×Addr))=>match x with
    | (name,kind)=>if (kind == NameKind.free)=true then (do let a <-cellOf env name;pure (ForInStep.yield ((name,a)::r))) else pure (ForInStep.yield r)):Sem (List (Str×Addr)))=pure (clOf env l acc):=by
  intro l
  induction l with
  | nil=>intro acc _;rfl
  | cons p r ih =>
   intro acc hp
   obtain ⟨n,k⟩:=p
   rw [List.forIn_cons]
   unfold clOf
   by_cases hk:(k == NameKind.free)=true
   ·obtain ⟨c,hc⟩:=Option.isSome_iff_exists.mp (hp n k List.mem_cons_self hk)
    have hc1:cellOf env n=pure c:=by simp only [cellOf,hc]
    simp only [hk,if_true,hc1,hc,Option.getD_some]
    have:=ih ((n,c)::acc) (fun n' k' h'=>hp n' k' (List.mem_cons_of_mem _ h'))
    simpa using this
   ·simp only [hk,if_false]
    have:=ih acc (fun n' k' h'=>hp n' k' (List.mem_cons_of_mem _ h'))
    simpa using this
 have:=go scope.names [] h
 simp only [closureFor]
 simpa using this
def compOk(sc out:Scope)(xs:List Str)(cs:List Str):Bool :=
 (sc.kind == .function)&&(out.kind == .function)&&sc.names.all (fun p=>p.2 != NameKind.cell)&&sc.names.all (fun p=>p.2 != NameKind.local || sc.names.lookup p.1 == some .local)&&xs.all (fun x=>sc.names.lookup x == some .local)
  && sc.names.all (fun p=>p.2 != NameKind.free || out.names.lookup p.1 == some .cell)&&cs.all (fun c=>sc.names.lookup c == some .free)
structure CompOk(sc out:Scope)(xs:List Str)(cs:List Str):Prop where
 kind:sc.kind = .function
 okind:out.kind = .function
 cell:∀ y∈sc.names,y.2 ≠ .cell
 names:∀ y∈sc.names,y.2 = .local->sc.names.lookup y.1=some .local
 x:∀ x∈xs,sc.names.lookup x=some .local
 free:∀ n k,(n,k)∈sc.names->k = .free->out.names.lookup n=some .cell
 cs:∀ c∈cs,sc.names.lookup c=some .free
theorem compOk.mk{sc out:Scope}{xs:List Str}{cs:List Str}(h:compOk sc out xs cs=true):CompOk sc out xs cs:=by
 unfold compOk at h
 simp only [Bool.and_eq_true,List.all_eq_true,beq_iff_eq,bne_iff_ne,ne_eq,Bool.or_eq_true] at h
 obtain ⟨⟨⟨⟨⟨⟨h1,h2⟩,h3⟩,h4⟩,h5⟩,h6⟩,h7⟩:=h
 exact ⟨h1,h2,h3,fun y hy hl=>(h4 y hy).resolve_left fun z=>z hl,h5,fun n k hm hk=>(h6 (n,k) hm).resolve_left fun z=>z hk,h7⟩
theorem relabel_free{sc:Scope}{env:Env}{n:Str}(hk:env.scope.kind = .function)(hout:env.scope.names.lookup n=some .cell)(h:sc.names.lookup n=some .free):(relabel sc env).names.lookup n=some .cell:=by
 unfold relabel
 have go:∀ l:List (Str×NameKind),l.lookup n=some .free ->
   (l.map fun (p:Str×NameKind)=>if (p.2 == NameKind.free&&env.scope.kind == .function&&env.kindOf p.1 == some .cell)=true then (p.1,NameKind.cell) else (p.1,p.2)).lookup n=some .cell:=by
  intro l
  induction l with
  | nil=>intro h;simp at h
  | cons p r ih =>
   intro h
   obtain ⟨m,k⟩:=p
   rw [List.lookup_cons] at h
   cases hm:n == m with
   | true =>
    rw [hm] at h
    cases h
    have e:n=m:=by simpa using hm
    subst e
    have hko:env.kindOf n=some .cell:=hout
    rw [List.map_cons]
    simp [hk,hko]
   | false =>
    rw [hm] at h
    rw [List.map_cons]
    by_cases hc:(k == NameKind.free&&env.scope.kind == .function&&env.kindOf m == some .cell)=true
    ·rw [if_pos hc,List.lookup_cons,hm]
     exact ih h
    ·rw [if_neg hc,List.lookup_cons,hm]
     exact ih h
 exact go sc.names h
def cxComp(X:Cx)(xs:List Str)(capt:List Nat)(scope:Scope)(C:Addr)(s:Shared)(H:Hp)(ex:List Addr):Cx :=
 { X with N:=xs++capt.map (fun j=>X.N.getD j ""),s₀:=s,H₀:=H,env:=compEnvC scope (clOf X.env scope.names []) C X.env,outer:=X.stack,ex:=ex,fn:=fun _=>false,pn:=[] }
def PTs(X:Cx)(ifs:List Expr)(t:TT):Prop :=
 ∀ (pins:List (Addr×Obj)) (s:Shared) (σ:St) (H:Hp) (Q:Bool->Hp->Prop),Inv X pins σ H s->t σ H Q ->
  wpAny (model X.prog X.w) X.A (forIn ifs true fun c r=>if r=true then do let ok <-isTrue c X.env (eval c X.env);pure (ForInStep.yield ok) else pure (ForInStep.yield r)) (TP X pins σ Q) X.xe s
def tYes:TT:=fun _ H Q=>Q true H
theorem y_n{X:Cx}:PTs X [] tYes:=fun pins s σ H Q I h=>by
 show wpAny _ _ (pure true) _ _ _
 exact wpAny_pure ⟨H,I,h⟩
theorem pts_one{X:Cx}{c:Expr}{t:TT}(hc:PT X c t):PTs X [c] t:=fun pins s σ H Q I h=>by
 rw [List.forIn_cons]
 simp only [if_true]
 refine wpAny_bind (wpAny_bind (thn (hc pins s σ H Q I h) fun b s1 q=>?_))
 refine wpAny_pure ?_
 show wpAny _ _ (forIn [] b _) _ _ _
 exact wpAny_pure q
theorem compLoop_own{prog:Program}{w:World}{A:Around}{R:Result->Shared->Prop}{s:Shared}{elt target iter:Expr}{ifs:List Expr}{scope:Scope}{pos:Pos}{it acc:Value}{env:Env}(I:Nat->Shared->Prop)
  (turn:∀ n s,I n s->wpAny (model prog w) A (pyNext it) (fun r s₁=>match r with
   | none=>R (.ok .next) s₁
   | some v=>wpAny (model prog w) A (letOwnedTupleGo target it v) (fun _ s₁'=>wpAny (model prog w) A (assign target env v) (fun _ s₂ =>
     wpAny (model prog w) A (forIn ifs true fun c r=>if r=true then do let ok <-isTrue c env (eval c env);pure (ForInStep.yield ok) else pure (ForInStep.yield r)) (fun ok s₃ =>
      if ok=true then wpAny (model prog w) A (eval elt env) (fun x s₄ =>
       wpAny (model prog w) A (call (.builtin "list.append") [acc,x]) (fun _ s₅=>∃ m,m<n/\I m s₅) (notedBy (model prog w) A env fun e s'=>R (.error e) s') s₄) (notedBy (model prog w) A env fun e s'=>R (.error e) s') s₃
      else ∃ m,m<n/\I m s₃) (notedBy (model prog w) A env fun e s'=>R (.error e) s') s₂) (notedBy (model prog w) A env fun e s'=>R (.error e) s') s₁') (notedBy (model prog w) A env fun e s'=>R (.error e) s') s₁) (notedBy (model prog w) A env fun e s'=>R (.error e) s') s)
  (n:Nat) (h:I n s):codeAny (model prog w) A (.compLoop (.ListComp elt [⟨target,iter,ifs,0⟩] scope pos) 0 it acc env) R s:=by
 refine codeAny_loop rfl I (fun n s hI=>?_) n h
 show wpAny _ A ((compTurn (.ListComp elt [⟨target,iter,ifs,0⟩] scope pos) 0 it acc env).onRaise (fun x=>do noteFrame x env;theTreesLotGoes x)) _ _ s
 refine wpAny_noted ?_
 rw [compTurn_list]
 refine wpAny_bind (wpAny_standAt (wpAny_bind (wpAny_mono (turn n s hI) (fun r s₁ h₁=>?_) fun _ _ h'=>h')))
 cases r with
 | none=>exact wpAny_pure h₁
 | some v =>
  refine wpAny_bind (wpAny_mono h₁ (fun _ s₁' h₁'=>?_) fun _ _ h'=>h')
  refine wpAny_bind (wpAny_mono h₁' (fun _ s₂ h₂=>wpAny_bind (wpAny_mono h₂ (fun ok s₃ h₃=>?_) fun _ _ h'=>h')) fun _ _ h'=>h')
  cases ok with
  | false=>exact wpAny_pure ⟨rfl,h₃⟩
  | true =>
   exact wpAny_bind (wpAny_bind (wpAny_mono h₃ (fun x s₄ h₄=>wpAny_bind (wpAny_mono h₄ (fun _ s₅ h₅=>wpAny_pure (wpAny_pure ⟨rfl,h₅⟩)) fun _ _ h'=>h')) fun _ _ h'=>h'))
section
variable {X:Cx} {pins:List (Addr×Obj)} {σ:St} {H H2:Hp} {s s2:Shared} {xs:List Str} {capt:List Nat} {scope:Scope} {fp:List Addr}
abbrev emptyL:Obj:={ cls:=.type "list",dict:=none,data:=.seq ([]:List Value).toArray }
theorem Inv.stk_lt(I:Inv X pins σ H s){b:Addr}(hb:s.heap.objs.size<=b):b∉frs X.stack:=fun z=>by
 rcases List.mem_cons.mp (I.stkSub b z) with e | e
 ·exact absurd (Nat.lt_of_lt_of_le I.lt hb) (by rw [e];exact Nat.lt_irrefl _)
 ·exact I.nofs hb e
theorem comp_cxok(I:Inv X pins σ H2 s2)(ok:CompOk scope X.env.scope xs (capt.map fun j=>X.N.getD j ""))(hf:∀ b∈fp,FpOk X pins H2 b)(hfo:∀ b∈fp,∃ o,s2.heap.get? b=some o){HH:Heap}(eH:HH=s2.heap.push emptyL) :
  (cxComp X xs capt scope HH.objs.size { s2 with heap:=HH } H2 (s2.heap.objs.size::fp)).Ok:=by
 have hsz:HH.objs.size=s2.heap.objs.size+1:=by rw [eH,Heap.size_push]
 have look:∀ y c,(clOf X.env scope.names []).lookup y=some c->X.env.cells.lookup y=some c:=fun y c e=>by
  rw [x_p] at e
  split at e
  ·rename_i ha
   obtain ⟨p,hp,hq⟩:=List.any_eq_true.mp ha
   simp only [Bool.and_eq_true,beq_iff_eq] at hq
   obtain ⟨q1,q2⟩:=hq
   subst q1
   obtain ⟨c',hc'⟩:=I.ok.has p.1 (.inl (ok.free p.1 p.2 hp q2))
   rw [hc'] at e ⊢
   exact e
  ·cases e
 have keep:∀ b o,s2.heap.get? b=some o->HH.get? b=some o:=fun b o e=>by rw [eH];exact Heap.get?_push_of_some _ e
 refine ⟨I.ok.mod,ok.kind,I.ok.glob,I.ok.blt,Nat.le_refl _,fun y z c h1 h2=>I.ok.inj y z c (look y c h1) (look z c h2),fun y hy=>?_,(fun y c h _=>nomatch h),I.ok.hd,I.ok.frames,I.ok.gd,.inl rfl,fun b hb=>?_,fun b o e=>?_,?_,fun b o e hb=>?_,fun b hb=>?_,?_,fun b hb=>I.stkFree b hb⟩
 ·-- each cell's name has its cell
  have hy':(relabel scope X.env).names.lookup y=some .cell\/(relabel scope X.env).names.lookup y=some .free:=hy
  have inn:∀ (l:List (Str×NameKind)) (k:NameKind),(∀ p∈l,p.2 ≠ .cell)->(k = .cell\/k = .free) ->
    (l.map fun (p:Str×NameKind)=>if (p.2 == NameKind.free&&X.env.scope.kind == .function&&X.env.kindOf p.1 == some .cell)=true then (p.1,NameKind.cell) else (p.1,p.2)).lookup y=some k->∃ p∈l,p.1=y/\p.2 = .free:=by
   intro l k hnc hkk
   induction l with
   | nil=>intro h;simp at h
   | cons p r ih =>
    intro h
    obtain ⟨m,k'⟩:=p
    rw [List.map_cons] at h
    by_cases hc:(k' == NameKind.free&&X.env.scope.kind == .function&&X.env.kindOf m == some .cell)=true
    ·rw [if_pos hc,List.lookup_cons] at h
     have hfree:k' = .free:=by
      simp only [Bool.and_eq_true,beq_iff_eq] at hc
      exact hc.1.1
     cases hm:y == m with
     | true=>exact ⟨(m,k'),List.mem_cons_self,by simpa using Eq.symm (by simpa using hm),hfree⟩
     | false =>
      rw [hm] at h
      obtain ⟨p,hp,q⟩:=ih (fun p hp=>hnc p (List.mem_cons_of_mem _ hp)) h
      exact ⟨p,List.mem_cons_of_mem _ hp,q⟩
    ·rw [if_neg hc,List.lookup_cons] at h
     cases hm:y == m with
     | true =>
      rw [hm] at h
      cases h
      rcases hkk with z | z
      ·exact absurd z (hnc (m,k') List.mem_cons_self)
      ·exact ⟨(m,k'),List.mem_cons_self,by simpa using Eq.symm (by simpa using hm),z⟩
     | false =>
      rw [hm] at h
      obtain ⟨p,hp,q⟩:=ih (fun p hp=>hnc p (List.mem_cons_of_mem _ hp)) h
      exact ⟨p,List.mem_cons_of_mem _ hp,q⟩
  have hex:∃ p∈scope.names,p.1=y/\p.2 = .free:=by
   rcases hy' with h | h
   ·exact inn scope.names .cell ok.cell (.inl rfl) h
   ·exact inn scope.names .free ok.cell (.inr rfl) h
  obtain ⟨p,hp,q1,q2⟩:=hex
  refine ⟨_,(x_p (env:=X.env) scope.names []).trans (if_pos (List.any_eq_true.mpr ⟨p,hp,?_⟩))⟩
  simp [q1,q2]
 ·-- the records that turn are not the frame's
  rcases List.mem_cons.mp hb with z | z
  ·subst z
   refine ⟨Nat.ne_of_lt (show s2.heap.objs.size<HH.objs.size by lia),fun y c e q=>?_⟩
   obtain ⟨v,hv⟩:=I.cell y c (look y c e)
   have:=hv.lt
   rw [q] at this
   exact absurd this (Nat.lt_irrefl _)
  ·obtain ⟨o,ho⟩:=hfo b z
   exact ⟨Nat.ne_of_lt (Nat.lt_of_lt_of_le (Heap.lt_size ho) (show s2.heap.objs.size<=HH.objs.size by lia)),fun y c e=>(hf b z).2.2.2.2.1 y c (look y c e)⟩
 ·obtain ⟨h1,h2⟩:=I.bs b o e
  exact ⟨keep b o h1,h2⟩
 ·show X.base.objs.size<=HH.objs.size
  have h1:=I.ok.bsz
  have h2:=I.sz
  lia
 ·-- the base's objects do not turn
  have h0:=(I.bs b o e).1
  rcases List.mem_cons.mp hb with z | z
  ·subst z
   exact absurd (Heap.lt_size h0) (Nat.lt_irrefl _)
  ·rcases (hf b z).2.2.2.1 with q | q
   ·exact I.ok.noex b o e q
   ·have h1:=(I.ok.bs b o e).1
    exact absurd (Nat.lt_of_lt_of_le (Heap.lt_size h1) q) (Nat.lt_irrefl _)
 ·show b∉frs X.stack
  rcases List.mem_cons.mp hb with z | z
  ·subst z
   exact I.stk_lt (Nat.le_refl _)
  ·intro q
   rcases List.mem_cons.mp (I.stkSub b q) with e | e
   ·exact (hf b z).2.1 e
   ·exact (hf b z).2.2.1 e
 ·show HH.FunFrames X.base X.stack
  exact Heap.FunFrames.of_keeps (fun b o e _=>⟨o,keep b o e,rfl⟩) I.stack
theorem comp_inv(I:Inv X pins σ H2 s2)(ok:CompOk scope X.env.scope xs (capt.map fun j=>X.N.getD j ""))(hcap:∀ j∈capt,j<X.N.length)(hf:∀ b∈fp,FpOk X pins H2 b)(hfo:∀ b∈fp,∃ o,s2.heap.get? b=some o)
  {HH h1:Heap} {t:Nat} {m:Str->Option Value} {oc:Obj} (eH:HH=s2.heap.push emptyL) (hns:h1.Ns HH.objs.size m) (hsb:Heap.SameBut HH.objs.size (HH.push oc) h1) :
  Inv (cxComp X xs capt scope HH.objs.size { s2 with heap:=HH } H2 (s2.heap.objs.size::fp)) [(s2.heap.objs.size,emptyL)] (List.replicate xs.length none++capt.map fun j=>(σ[j]?).join) H2 { s2 with heap:=h1,toks:=t }:=by
 have hsz:HH.objs.size=s2.heap.objs.size+1:=by rw [eH,Heap.size_push]
 have look:∀ y c,(clOf X.env scope.names []).lookup y=some c->X.env.cells.lookup y=some c:=fun y c e=>by
  rw [x_p] at e
  split at e
  ·rename_i ha
   obtain ⟨p,hp,hq⟩:=List.any_eq_true.mp ha
   simp only [Bool.and_eq_true,beq_iff_eq] at hq
   obtain ⟨q1,q2⟩:=hq
   subst q1
   obtain ⟨c',hc'⟩:=I.ok.has p.1 (.inl (ok.free p.1 p.2 hp q2))
   rw [hc'] at e ⊢
   exact e
  ·cases e
 have keep0:∀ b o,HH.get? b=some o->h1.get? b=some o:=fun b o e=>hsb.extBut b o (Nat.ne_of_lt (Heap.lt_size e)) (Heap.get?_push_of_some _ e)
 have keep:∀ b o,s2.heap.get? b=some o->h1.get? b=some o:=fun b o e=>keep0 b o (by rw [eH];exact Heap.get?_push_of_some _ e)
 have hD:h1.get? s2.heap.objs.size=some emptyL:=keep0 _ _ (by rw [eH];exact Heap.get?_push_size _ rfl)
 refine ⟨comp_cxok I ok hf hfo eH,rfl,I.bare,Un.kept keep0,⟨m,hns,fun i y v h1' h2 h3=>?_⟩,fun y c e=>?_,I.hok.fresh (show s2.heap.objs.size<=HH.objs.size by lia),fun y c e=>I.freeC y c (look y c e),fun p hp=>?_,I.hok.kept keep,?_⟩
 ·by_cases hi:i<xs.length
  ·have h2':(List.replicate xs.length (none:Option V))[i]? = some (some v):=by
    rw [<-List.getElem?_append_left (l₂:=capt.map fun j=>(σ[j]?).join) (by simpa using hi)]
    exact h2
   rw [List.getElem?_replicate_of_lt hi] at h2'
   cases h2'
  ·have h1'':(capt.map fun j=>X.N.getD j "")[i-xs.length]? = some y:=by
    rw [<-List.getElem?_append_right (l₁:=xs) (by lia)]
    exact h1'
   have h2':(capt.map fun j=>(σ[j]?).join)[i-xs.length]? = some (some v):=by
    have q:=List.getElem?_append_right (l₁:=List.replicate xs.length (none:Option V)) (l₂:=capt.map fun j=>(σ[j]?).join) (i:=i) (by simpa using hi)
    rw [List.length_replicate] at q
    rw [<-q]
    exact h2
   rw [List.getElem?_map] at h1'' h2'
   cases hj:capt[i-xs.length]? with
   | none=>rw [hj] at h1'';cases h1''
   | some j =>
    rw [hj] at h1'' h2'
    have ey:X.N.getD j "" = y:=by simpa using h1''
    have ev:(σ[j]?).join=some v:=by simpa using h2'
    have hjm:j∈capt:=List.mem_of_getElem? hj
    have hjl:=hcap j hjm
    have hN:X.N[j]? = some y:=by
     rw [List.getD_eq_getElem?_getD,List.getElem?_eq_getElem hjl] at ey
     rw [List.getElem?_eq_getElem hjl]
     simpa using ey
    have hσ:σ[j]? = some (some v):=by
     cases e:σ[j]? with
     | none=>rw [e] at ev;cases ev
     | some o=>rw [e] at ev;have ev':o=some v:=ev;rw [ev']
    have hfr:scope.names.lookup y=some .free:=ok.cs y (List.mem_map.mpr ⟨j,hjm,ey⟩)
    have hout:X.env.scope.names.lookup y=some .cell:=ok.free y .free (PySem.mem_of_lookup hfr) rfl
    obtain ⟨mX,_,hl⟩:=I.loc
    obtain ⟨u,ru,lk⟩:=hl j y v hN hσ (.inr (.inl hout))
    refine ⟨u,ru,?_⟩
    have hko:X.env.kindOf y=some .cell:=hout
    rcases lk with ⟨z,_⟩ | ⟨_,c,hc,hcell⟩
    ·rw [hko] at z;cases z
    ·refine .inr ⟨.inl (relabel_free ok.okind hout hfr),c,?_,hcell.keeps keep⟩
     show (clOf X.env scope.names []).lookup y=some c
     rw [x_p,if_pos (List.any_eq_true.mpr ⟨(y,.free),PySem.mem_of_lookup hfr,by simp⟩),hc]
     rfl
 ·obtain ⟨v,hv⟩:=I.cell y c (look y c e)
  exact ⟨v,hv.keeps keep⟩
 ·have hp':p=(s2.heap.objs.size,emptyL):=by simpa [cxComp] using hp
  subst hp'
  refine ⟨hD,I.hok.fresh (Nat.le_refl _),Nat.ne_of_lt (show s2.heap.objs.size<HH.objs.size by lia),I.stk_lt (Nat.le_refl _),fun v z=>by cases z⟩
 ·show _=(xs++capt.map fun j=>X.N.getD j "").length
  simp
def CompG(J:It)(n:Nat)(c:St)(g:TG)(tt:TT)(te:TE)(H1:Hp)(Fin:List V->Hp->Prop):Prop :=
 ∃ W:Nat->Nat->List V->Hp->Prop,(∃ m,W 0 m [] H1)/\∀ i m ys H,W i m ys H->(J.stop i H/\Fin ys H) \/
  (J.go i H/\ys.length<sizeLine/\∃ N:List V->Hp->Prop,(∀ ys' H',N ys' H'->∃ m',m'<m/\W (i+1) m' ys' H') /\
   ∀ x H',J.yld i H x H'->∀ os:St,os.length=n->g x (os++c) H' fun σ1 H1=>tt σ1 H1 fun b H2=>if b=true then te σ1 H2 fun y H3=>N (ys++[y]) H3 else N ys H2)
def tCompG(n:Nat)(g:TG)(capt:List Nat)(wi:TI)(tt:TT)(te:TE):TE:=fun σ H Q=>wi σ H fun J H1 =>
 CompG J n (capt.map fun j=>(σ[j]?).join) g tt te H1 fun ys H=>∀ l,H l=none->Q (.ref l) (upd H l (.lst ys))
def Shp(n:Nat)(g:TG):Prop:=∀ v (os c:St) H Q,os.length=n->g v (os++c) H Q->g v (os++c) H fun σ' H'=>(∃ os':St,os'.length=n/\σ'=os'++c)/\Q σ' H'
def CompW(J:It)(S:V->St)(tt:TT)(te:TE)(H1:Hp)(Fin:List V->Hp->Prop):Prop :=
 ∃ W:Nat->Nat->List V->Hp->Prop,(∃ m,W 0 m [] H1)/\∀ i m ys H,W i m ys H->(J.stop i H/\Fin ys H) \/
  (J.go i H/\ys.length<sizeLine/\∃ N:List V->Hp->Prop,(∀ ys' H',N ys' H'->∃ m',m'<m/\W (i+1) m' ys' H') /\
   ∀ x H',J.yld i H x H'->tt (S x) H' fun b H2=>if b=true then te (S x) H2 fun y H3=>N (ys++[y]) H3 else N ys H2)
def tComp(capt:List Nat)(wi:TI)(tt:TT)(te:TE):TE:=fun σ H Q=>wi σ H fun J H1 =>
 CompW J (fun x=>some x::capt.map fun j=>(σ[j]?).join) tt te H1 fun ys H=>∀ l,H l=none->Q (.ref l) (upd H l (.lst ys))
theorem CompW.g{J:It}{c:St}{tt:TT}{te:TE}{H:Hp}{Fin:List V->Hp->Prop}(h:CompW J (fun x=>some x::c) tt te H Fin):CompG J 1 c (gName 0) tt te H Fin:=by
 obtain ⟨W,w0,st⟩:=h
 refine ⟨W,w0,fun i m ys H w=>?_⟩
 rcases st i m ys H w with q | ⟨go,hl,N,hN,step⟩
 ·exact .inl q
 ·refine .inr ⟨go,hl,N,hN,fun x H' y os hos=>?_⟩
  obtain ⟨o,rfl⟩:=List.length_eq_one_iff.mp hos
  exact step x H' y
theorem shp_name:Shp 1 (gName 0):=fun v os c H Q hos h=>by
 obtain ⟨o,rfl⟩:=List.length_eq_one_iff.mp hos
 exact ⟨⟨[some v],rfl,rfl⟩,h⟩
theorem shp_tup2{K:PySem.W.Frag}:Shp 2 (gTup K 2 (gCons (gName 0) (gCons (gName 1) gNil))):=fun v os c H Q hos h=>by
 match os,hos with
 | [a,b],_ =>
 obtain ⟨p,xs,rfl,hp,hl,v1,r1,rfl,v2,r2,rfl,rfl,q⟩:=h
 exact ⟨p,_,rfl,hp,hl,v1,_,rfl,v2,_,rfl,rfl,⟨[some v1,some v2],rfl,rfl⟩,q⟩
theorem HOk.track{P:Program}{w:World}{H:Hp}{h:Heap}{a:Addr}{o:HO}(k:HOk P w H h)(n:H a=none)(new:ObjOk P w (upd H a o) h a o):HOk P w (upd H a o) h:=fun b u e=>by
 by_cases hb:b=a
 ·subst hb;rw [z_b] at e;cases e;exact new
 ·rw [z_j hb] at e
  exact (k b u e).stay (fun _ _ _ q=>q) (fun c q=>by rw [z_j (z_g q n)];exact q) (fun c xs q=>by rw [z_j (z_g q n)];exact q) fun c ob xs q=>by rw [z_j (z_g q n)];exact q
theorem comp_block{elt iter tg:Expr}{g:TG}{ifs:List Expr}{pos:Pos}{tt:TT}{te:TE}{it:Addr}{tn:Nat->Heap->Prop}{J:It}{RR:Value->Addr->Result->Shared->Prop}
  (hx0:∀ e s,¬X.xe e s) (hc:X.calm=true) (ok:CompOk scope X.env.scope xs (capt.map fun j=>X.N.getD j "")) (hcap:∀ j∈capt,j<X.N.length) (hG:∀ C s H ex,PG (cxComp X xs capt scope C s H ex) tg g) (hgs:Shp xs.length g)
  (hT:∀ C s H ex,PTs (cxComp X xs capt scope C s H ex) ifs tt) (hE:∀ C s H ex,PE (cxComp X xs capt scope C s H ex) elt te)
  (I2:Inv X pins σ H2 s2) (T:Turn X.prog X.w X.K tg J fp it tn) (st2:tn 0 s2.heap) (f2:∀ b∈fp,FpOk X pins H2 b)
  (Fin:List V->Hp->Prop) (hW:CompG J xs.length (capt.map fun j=>(σ[j]?).join) g tt te H2 Fin)
  (hRR:∀ D C s' ys H' oc,H' D=none->Fin ys H'->Inv X pins σ (upd H' D (.lst ys)) s'->s'.heap.get? C=some oc->(∃ m,s'.heap.Ns C m)->C≠D->H' C=none->C≠X.env.locals->C∉frs X.stack->X.s₀.heap.objs.size<=C->(∀ y c,X.env.cells.lookup y=some c->c≠C)->(∀ p∈X.pn++pins,p.1≠C) ->
   (∀ v,oc.data ≠ .cell v)->RR (.ref D) C (.ok .next) s') :
  wpAny (model X.prog X.w) X.A (newList []) (fun acc s₃=>wpAny (model X.prog X.w) X.A (newFunctionEnv scope X.env.globals (clOf X.env scope.names []) [] X.env.qual none .none (some X.env)) (fun cenv s₄ =>
   codeAny (model X.prog X.w) X.A (.compStart (.ListComp elt [⟨tg,iter,ifs,0⟩] scope pos) 0 (.ref it) acc { cenv with scope:=relabel scope X.env }) (RR acc cenv.locals) s₄) X.xe s₃) X.xe s2:=by
 refine wpAny_newObj_type (wpAny_newFunctionEnv ok.cell (by intro y hy;simp at hy) (fun h1 hns hsb=>?_) ok.kind)
 dsimp only at hns hsb ⊢
 generalize eH:s2.heap.push { cls:=.type "list",dict:=none,data:=.seq ([]:List Value).toArray }=HH at hns hsb ⊢
 have eH':HH=s2.heap.push emptyL:=eH.symm
 have hsz:HH.objs.size=s2.heap.objs.size+1:=by rw [eH',Heap.size_push]
 have hfo:∀ b∈fp,∃ o,s2.heap.get? b=some o:=fun b hb=>let ⟨o,ho,_⟩:=T.obj 0 _ st2 b hb;⟨o,ho⟩
 have flt:∀ b∈fp,b<s2.heap.objs.size:=fun b hb=>let ⟨o,ho⟩:=hfo b hb;Heap.lt_size ho
 have keep1:∀ b o,s2.heap.get? b=some o->h1.get? b=some o:=fun b o e =>
  hsb.extBut b o (Nat.ne_of_lt (Nat.lt_of_lt_of_le (Heap.lt_size e) (show s2.heap.objs.size<=HH.objs.size by lia))) (Heap.get?_push_of_some _ (by rw [eH'];exact Heap.get?_push_of_some _ e))
 have I4:=comp_inv (t:=s2.toks+([]:List (Str×Value)).length) I2 ok hcap f2 hfo eH' hns hsb
 have st4:tn 0 h1:=T.keep 0 _ _ st2 fun b _ o e=>keep1 b o e
 obtain ⟨W,⟨m0,w0⟩,turn⟩:=hW
 generalize hX:cxComp X xs capt scope HH.objs.size { s2 with heap:=HH } H2 (s2.heap.objs.size::fp)=Y at I4
 have eProg:Y.prog=X.prog:=by rw [<-hX];rfl
 have eW:Y.w=X.w:=by rw [<-hX];rfl
 have eK:Y.K=X.K:=by rw [<-hX];rfl
 have eA:Y.A=X.A:=by rw [<-hX];rfl
 have eEnv:Y.env=compEnvC scope (clOf X.env scope.names []) HH.objs.size X.env:=by rw [<-hX];rfl
 have eXe:Y.xe=X.xe:=by rw [<-hX];rfl
 have eCalm:Y.calm=true:=by rw [<-hX];exact hc
 have ePn:Y.pn=[]:=by rw [<-hX];rfl
 have eEx:Y.ex=s2.heap.objs.size::fp:=by rw [<-hX];rfl
 have eFs:Y.fs=frs X.stack:=by rw [<-hX];rfl
 have hT':PTs Y ifs tt:=by rw [<-hX];exact hT _ _ _ _
 have hE':PE Y elt te:=by rw [<-hX];exact hE _ _ _ _
 have hG':PG Y tg g:=by rw [<-hX];exact hG _ _ _ _
 have eH0:Y.H₀=H2:=by rw [<-hX];rfl
 have eS0:Y.s₀={ s2 with heap:=HH }:=by rw [<-hX];rfl
 have eL:Y.env.locals=HH.objs.size:=by rw [eEnv];rfl
 have ecl:Y.env.cells=clOf X.env scope.names []:=by rw [eEnv];rfl
 have look:∀ y c,(clOf X.env scope.names []).lookup y=some c->X.env.cells.lookup y=some c:=fun y c e=>by
  rw [x_p] at e
  split at e
  ·rename_i ha
   obtain ⟨p,hp,hq⟩:=List.any_eq_true.mp ha
   simp only [Bool.and_eq_true,beq_iff_eq] at hq
   obtain ⟨q1,q2⟩:=hq
   subst q1
   obtain ⟨c',hc'⟩:=I2.ok.has p.1 (.inl (ok.free p.1 p.2 hp q2))
   rw [hc'] at e ⊢
   exact e
  ·cases e
 have fpOk:∀ {pins':List (Addr×Obj)} {H':Hp},(∀ b∈fp,H' b=none)->(∀ p∈pins',p.1∉fp)->∀ b∈fp,FpOk Y pins' H' b:=fun {pins' H'} hn hp b hb=>by
  have hlt:=flt b hb
  refine ⟨hn b hb,by rw [eL];exact Nat.ne_of_lt (Nat.lt_of_lt_of_le hlt (show s2.heap.objs.size<=HH.objs.size by lia)),?_,.inl (by rw [eEx];exact List.mem_cons_of_mem _ hb),fun y c e=>(f2 b hb).2.2.2.2.1 y c (look y c (by rw [<-ecl];exact e)),fun p hpp z=>?_⟩
  ·rw [eFs]
   intro q
   rcases List.mem_cons.mp (I2.stkSub b q) with e | e
   ·exact (f2 b hb).2.1 e
   ·exact (f2 b hb).2.2.1 e
  ·rw [ePn,List.nil_append] at hpp
   exact hp p hpp (by rw [z];exact hb)
 have Dnf:s2.heap.objs.size∉fp:=fun z=>absurd (flt _ z) (Nat.lt_irrefl _)
 have loop:codeAny (model X.prog X.w) X.A (.compLoop (.ListComp elt [⟨tg,iter,ifs,0⟩] scope pos) 0 (.ref it) (.ref s2.heap.objs.size) Y.env) (RR (.ref s2.heap.objs.size) HH.objs.size) { s2 with heap:=h1,toks:=s2.toks+([]:List (Str×Value)).length }:=by
  refine compLoop_own (fun n s'=>∃ i ys its k os H',Inv Y [(s2.heap.objs.size,{ cls:=.type "list",data:=.seq its.toArray k })] (os++capt.map fun j=>(σ[j]?).join) H' s'/\os.length=xs.length/\Vals ys its/\ys.length<=sizeLine/\tn i s'.heap/\(∀ b∈fp,H' b=none)/\W i n ys H') ?_ m0
   ⟨0,[],[],0,_,H2,I4,List.length_replicate,.nil,Nat.zero_le _,st4,fun b hb=>(f2 b hb).1,w0⟩
  rintro n s3 ⟨i,ys,its,k,os,H3,I3,hos,rv,hys,st3,fr3,w3⟩
  have noErr:∀ {e:Value} {s:Shared},X.xe e s->notedBy (model X.prog X.w) X.A Y.env (fun e s'=>RR (.ref s2.heap.objs.size) HH.objs.size (.error e) s') e s:=fun {e s} z=>(hx0 e s z).elim
  have pinD:=I3.pin (s2.heap.objs.size,{ cls:=.type "list",data:=.seq its.toArray k }) (by simp)
  have fp3:=fpOk (pins':=[(s2.heap.objs.size,{ cls:=.type "list",data:=.seq its.toArray k })]) fr3 (by simpa using Dnf)
  rcases turn i n ys H3 w3 with ⟨stop,fin⟩ | ⟨go,hlt,N,hN,step⟩
  ·-- it stops
   have d:=T.done Y eProg eW eK eCalm i _ s3 _ H3 X.xe I3 fp3 st3 stop
   rw [eA] at d
   refine wpAny_mono d (fun r s4 ⟨hr,I4'⟩=>?_) fun e s z=>noErr z
   subst hr
   show RR (.ref s2.heap.objs.size) HH.objs.size (.ok .next) s4
   have pinD4:=I4'.pin (s2.heap.objs.size,{ cls:=.type "list",data:=.seq its.toArray k }) (by simp)
   obtain ⟨mC,nsC,_⟩:=I4'.loc
   rw [eL] at nsC
   obtain ⟨oC,esC,epC,hoC,hdC,_⟩:=id nsC
   have base4:=I4'.base
   rw [eFs,eEx,eH0,eS0] at base4
   have hCn:H3 HH.objs.size=none:=by rw [<-eL];exact I4'.free
   refine hRR s2.heap.objs.size HH.objs.size s4 ys H3 oC pinD4.2.1 fin ?_ hoC ⟨mC,nsC⟩ (Nat.ne_of_gt (show s2.heap.objs.size<HH.objs.size by lia)) hCn (Nat.ne_of_gt (Nat.lt_of_lt_of_le I2.lt (show s2.heap.objs.size<=HH.objs.size by lia))) (I2.stk_lt (by lia)) (by have:=I2.sz;lia) (fun y c e z=>?_) (fun p hp z=>?_) (fun v z=>by rw [hdC] at z;cases z)
   ·have hok4:=I4'.hok
    rw [eProg,eW] at hok4
    have hbl:∀ b ob,s2.heap.get? b=some ob->b∉fp->HH.get? b=some ob/\b∉s2.heap.objs.size::fp:=fun b ob e hm =>
     ⟨by rw [eH'];exact Heap.get?_push_of_some _ e,fun z=>(List.mem_cons.mp z).elim (fun q=>absurd (Heap.lt_size e) (by rw [q];exact Nat.lt_irrefl _)) hm⟩
    refine I2.call' (ch:=fp) (by rw [I4'.os,eS0]) ⟨fun b ob e nn hb hx=>?_,fun b ob e nn hb hx=>?_,fun b ob e nn hx=>?_,fun b ob e hx=>?_,fun b xs e=>?_,fun b ob u e=>?_,fun b pp qq e=>?_⟩ (HOk.track hok4 pinD4.2.1 ⟨hys,its,k,rv,pinD4.1⟩) I4'.bare fun b hb=>⟨(f2 b hb).2.2.2.1,(f2 b hb).2.1,(f2 b hb).2.2.2.2.1,(f2 b hb).2.2.2.2.2⟩
    ·obtain ⟨h1',h2'⟩:=hbl b ob e hx
     exact base4.keep b ob h1' nn hb h2'
    ·obtain ⟨h1',h2'⟩:=hbl b ob e hx
     exact base4.slot b ob h1' nn hb h2'
    ·obtain ⟨h1',h2'⟩:=hbl b ob e hx
     rw [z_j (Nat.ne_of_lt (Heap.lt_size e))]
     exact base4.free b ob h1' nn h2'
    ·obtain ⟨h1',h2'⟩:=hbl b ob e hx
     exact base4.there b ob h1' h2'
    ·have q:=base4.tups b xs e
     rw [z_j (z_g q pinD4.2.1)]
     exact q
    ·have q:=base4.frzs b ob u e
     rw [z_j (z_g q pinD4.2.1)]
     exact q
    ·have q:=base4.tbls b pp qq e
     rw [z_j (z_g q pinD4.2.1)]
     exact q
   ·obtain ⟨v,hv⟩:=I2.cell y c e
    have:=hv.lt
    rw [z] at this
    exact absurd this (Nat.not_lt.mpr (show s2.heap.objs.size<=HH.objs.size by lia))
   ·have:=Heap.lt_size (I2.pin p hp).1
    rw [z] at this
    exact absurd this (Nat.not_lt.mpr (show s2.heap.objs.size<=HH.objs.size by lia))
  ·-- one turn
   have d:=T.item Y eProg eW eK eCalm i _ s3 _ H3 X.xe I3 fp3 st3 go
   rw [eA] at d
   refine wpAny_mono d (fun r s4 ⟨u,hr,h4⟩=>?_) fun e s z=>noErr z
   subst hr
   refine wpAny_mono h4 (fun _ s5 ⟨v,H5,I5,r5,y5,st5,fr5⟩=>?_) fun e s z=>noErr z
   have fp5:=fpOk (pins':=[(s2.heap.objs.size,{ cls:=.type "list",data:=.seq its.toArray k })]) fr5 (by simpa using Dnf)
   have I5':=I5.pinned fp5 (T.obj _ _ st5)
   have pg':=hG' _ s5 _ H5 v u _ I5' r5 (hgs v os _ H5 _ hos (step v H5 y5 os hos))
   rw [eProg,eW,eA,eXe] at pg'
   refine wpAny_mono pg' (fun _ s6 ⟨σ6,H6,I6,⟨os6,hos6,e6⟩,q6⟩=>?_) fun e s z=>noErr z
   subst e6
   have t6:=hT' _ s6 _ H6 _ I6 q6
   rw [eProg,eW,eA,eXe] at t6
   refine wpAny_mono t6 (fun b s7 ⟨H7,I7,q7⟩=>?_) fun e s z=>noErr z
   have ntn:∀ {σ':St} {H':Hp} {s':Shared},Inv Y ([(s2.heap.objs.size,{ cls:=.type "list",data:=.seq its.toArray k })]++pinsAt fp s5.heap) σ' H' s'->tn (i+1) s'.heap/\∀ b∈fp,H' b=none:=fun {σ' H' s'} J'=>by
    refine ⟨T.keep _ _ _ st5 fun b hb o e=>(J'.pin (b,o) (List.mem_append_right _ (List.mem_append_right _ (mem_pinsAt hb e)))).1,fun b hb=>?_⟩
    obtain ⟨o,e,_⟩:=T.obj _ _ st5 b hb
    exact (J'.pin (b,o) (List.mem_append_right _ (List.mem_append_right _ (mem_pinsAt hb e)))).2.1
   cases b with
   | false =>
    rw [if_neg Bool.false_ne_true] at q7
    obtain ⟨m',hm,w7⟩:=hN _ _ q7
    rw [if_neg Bool.false_ne_true]
    exact ⟨m',hm,i+1,ys,its,k,os6,H7,I7.unpinned,hos6,rv,hys,(ntn I7).1,(ntn I7).2,w7⟩
   | true =>
    rw [if_pos rfl] at q7
    rw [if_pos rfl]
    have e7:=hE' _ s7 _ H7 _ I7 q7
    rw [eProg,eW,eA,eXe] at e7
    refine wpAny_mono e7 (fun uy s8 ⟨y,H8,I8,r8,n8⟩=>?_) fun e s z=>noErr z
    obtain ⟨m',hm,w8⟩:=hN _ _ n8
    have pin8:=I8.pin (s2.heap.objs.size,{ cls:=.type "list",data:=.seq its.toArray k }) (by simp)
    have hlen:ys.length=its.length:=rv.length
    refine wpAny_list_append_plain (hsz:=by rw [List.size_toArray];lia) ⟨k,pin8.1⟩ fun h9 ⟨k9,hl9⟩ hs9=>?_
    have hk9:∀ b o,b≠s2.heap.objs.size->s8.heap.get? b=some o->h9.get? b=some o:=fun b o hb e=>(hs9.2 b hb).trans e
    have I8u:Inv Y (pinsAt fp s5.heap) (os6++capt.map fun j=>(σ[j]?).join) H8 s8:=I8.pins_of fun p hp=>I8.pin p (List.mem_append_right _ (List.mem_append_right _ hp))
    have I9:Inv Y (pinsAt fp s5.heap) (os6++capt.map fun j=>(σ[j]?).join) H8 { s8 with heap:=h9,toks:=s8.toks }:=I8u.turned (it:=s2.heap.objs.size) hk9 pin8.2.1 (by rw [eL];exact Nat.ne_of_lt (show s2.heap.objs.size<HH.objs.size by lia)) (.inl (by rw [eEx];exact List.mem_cons_self))
     (fun y c e z=>by
      rw [ecl] at e
      obtain ⟨v',hv⟩:=I2.cell y c (look y c e)
      have:=hv.lt
      rw [z] at this
      exact absurd this (Nat.lt_irrefl _))
     (fun p hp z=>by
      rw [ePn,List.nil_append] at hp
      exact Dnf (by rw [<-z];exact (of_pinsAt hp).1))
    have hl9':h9.get? s2.heap.objs.size=some { cls:=.type "list",data:=.seq (its++[uy]).toArray k9 }:=by
     rw [hl9];simp
    refine ⟨m',hm,i+1,ys++[y],its++[uy],k9,os6,H8,I9.pins_of fun p hp=>?_,hos6,rv.append (.cons r8 .nil),?_,?_,(ntn I8).2,w8⟩
    ·have hp':p=(s2.heap.objs.size,{ cls:=.type "list",data:=.seq (its++[uy]).toArray k9 }):=by simpa using hp
     subst hp'
     exact ⟨hl9',pin8.2.1,pin8.2.2.1,pin8.2.2.2.1,fun v z=>by cases z⟩
    ·rw [List.length_append,List.length_singleton];lia
    ·refine T.keep _ _ _ (ntn I8).1 fun b hb o e=>hk9 b o (fun z=>Dnf (by rw [<-z];exact hb)) e
 rw [eEnv] at loop
 refine codeAny_compStart_list ?_ ?_
 ·exact loop
 ·exact T.self _ 0 _ _ _ st4 loop
theorem pe_compG{elt iter tg:Expr}{g:TG}{ifs:List Expr}{pos:Pos}{wi:TI}{tt:TT}{te:TE}(xs:List Str)(capt:List Nat)
  (hx0:∀ e s,¬X.xe e s) (hc:X.calm=true) (hi:PI X tg iter wi) (hG:∀ C s H ex,PG (cxComp X xs capt scope C s H ex) tg g) (hgs:Shp xs.length g)
  (hT:∀ C s H ex,PTs (cxComp X xs capt scope C s H ex) ifs tt) (hE:∀ C s H ex,PE (cxComp X xs capt scope C s H ex) elt te)
  (hk:compOk scope X.env.scope xs (capt.map fun j=>X.N.getD j "")=true) (hcap:∀ j∈capt,j<X.N.length)
  (hs:∀ y,foldedSetIterable iter X.env y=pure y:=by intro _;rfl):PE X (.ListComp elt [⟨tg,iter,ifs,0⟩] scope pos) (tCompG xs.length g capt wi tt te):=by
 intro pins s σ H Q I h
 have ok:=compOk.mk hk
 rw [eval_ListComp]
 refine wpAny_comprehension_free (use:=none) (cl:=clOf X.env scope.names []) rfl hs (closure_clOf fun n k hm hf=>?_) ok.kind ok.names (thn (hi pins s σ H _ I h) fun xv s1 h1=>thn h1 fun itv s2 h2=>?_)
 ·obtain ⟨c,e⟩:=I.ok.has n (.inl (ok.free n k hm (by simpa using hf)))
  rw [e];rfl
 ·obtain ⟨it,fp,tn,J,H2,e,I2,T,st2,f2,hW⟩:=h2
  subst e
  refine comp_block (RR:=fun acc C=>compPost (model X.prog X.w) X.A X.xe none (EP X pins σ Q) acc C) hx0 hc ok hcap hG hgs hT hE I2 T st2 f2 (fun ys H=>∀ l,H l=none->Q (.ref l) (upd H l (.lst ys))) hW ?_
  intro D C s' ys H' oc hD fin I' hC ⟨m,hns⟩ hCD hCn hL _ hsz hcl hpn _
  refine ⟨m,hns,fun h' hsb=>⟨.ref D,_,I'.turned (t':=s'.toks) (it:=C) (fun b o hb e=>(hsb.2 b hb).trans e) (by rw [z_j hCD];exact hCn) hL (.inr hsz) hcl hpn,rfl,fin D hD⟩⟩
theorem ps_compG{elt iter tg:Expr}{g:TG}{py:Pos}{ifs:List Expr}{pos spos:Pos}{wi:TI}{tt:TT}{te:TE}{i:Nat}{y:Str}(xs:List Str)(capt:List Nat)
  (hN:X.N.Nodup) (hiy:X.N[i]? = some y) (hy:Loc X.env.scope y)
  (hx0:∀ e s,¬X.xe e s) (hc:X.calm=true) (hi:PI X tg iter wi) (hG:∀ C s H ex,PG (cxComp X xs capt scope C s H ex) tg g) (hgs:Shp xs.length g)
  (hT:∀ C s H ex,PTs (cxComp X xs capt scope C s H ex) ifs tt) (hE:∀ C s H ex,PE (cxComp X xs capt scope C s H ex) elt te)
  (hk:compOk scope X.env.scope xs (capt.map fun j=>X.N.getD j "")=true) (hcap:∀ j∈capt,j<X.N.length)
  (hsw:swapsWith (.ListComp elt [⟨tg,iter,ifs,0⟩] scope pos) (some (.Name y py)) spos.line X.env=pure true)
  (hs:∀ y,foldedSetIterable iter X.env y=pure y:=by intro _;rfl) (hf:X.fn y=true\/X.env.scope.names.lookup y=some .local:=by first | exact .inl rfl | exact .inr rfl | assumption) :
  PS X (.Assign [.Name y py] (.ListComp elt [⟨tg,iter,ifs,0⟩] scope pos) spos) (tAsg (tCompG xs.length g capt wi tt te) (gName i)):=by
 intro pins s σ H D0 I h
 have ok:=compOk.mk hk
 rw [exec_Assign_Name_used _ _ _ _ hsw]
 refine wpAny_bind (wpAny_standAt (wpAny_bind ?_))
 show wpAny _ X.A (do let _ <-comprehension (.ListComp elt [⟨tg,iter,ifs,0⟩] scope pos) scope X.env _ (newList []) false (eval iter X.env) (some (assign (.Name y py) X.env))) _ _ s
 refine wpAny_bind (wpAny_mono (wpAny_comprehension_free (use:=some (assign (.Name y py) X.env)) (cl:=clOf X.env scope.names []) (Q:=fun _ s'=>SP X pins D0 .next s') rfl hs (closure_clOf fun n k hm hf=>?_) ok.kind ok.names (thn (hi pins s σ H _ I h) fun xv s1 h1=>thn h1 fun itv s2 h2=>?_))
  (fun _ s' hq=>wpAny_pure (wpAny_pure hq)) fun _ _ e=>e)
 ·obtain ⟨c,e⟩:=I.ok.has n (.inl (ok.free n k hm (by simpa using hf)))
  rw [e];rfl
 ·obtain ⟨it,fp,tn,J,H2,e,I2,T,st2,f2,hW⟩:=h2
  subst e
  refine comp_block (RR:=fun acc C=>compPost (model X.prog X.w) X.A X.xe (some (assign (.Name y py) X.env)) (fun _ s'=>SP X pins D0 .next s') acc C) hx0 hc ok hcap hG hgs hT hE I2 T st2 f2 (fun ys H=>∀ l,H l=none->gName i (.ref l) σ (upd H l (.lst ys)) D0.nx) hW ?_
  intro D C s' ys H' oc hD fin I' hC ⟨m,hns⟩ hCD hCn hL hst hsz hcl hpn hnc
  show wpAny _ _ (assign (.Name y py) X.env (.ref D)) _ _ s'
  have hCf:C∉X.fs:=fun z=>by
   rcases I'.ok.stk with e | ⟨e,_⟩
   ·exact hst (by rw [e];exact z)
   ·refine hst ?_
    rw [e]
    unfold frs
    rw [List.filterMap_cons]
    split
    ·exact z
    ·exact List.mem_cons_of_mem _ z
  have Ip:Inv X (pins++[(C,oc)]) σ (upd H' D (.lst ys)) s':=I'.pins_of fun p hp=>(List.mem_append.mp hp).elim (fun z=>I'.pin p (List.mem_append_right _ z)) fun z=>by
   have z':p=(C,oc):=by simpa using z
   subst z'
   exact ⟨hC,by rw [z_j hCD];exact hCn,hL,hCf,hnc⟩
  have pg:=z_v (X:=X) (i:=i) (x:=y) (pos:=py) hN hiy hy hf
  refine thn (pg _ s' σ _ (.ref D) (.ref D) (fun σ' H''=>D0.nx σ' H''/\H''=upd H' D (.lst ys)) Ip rfl ⟨fin D hD,rfl⟩) fun _ s'' ⟨σ',H'',I'',q,eH⟩=>?_
  subst eH
  have pC:=I''.pin (C,oc) (by simp)
  obtain ⟨o,es,ep,ho,r⟩:=hns
  rw [hC] at ho
  cases ho
  refine ⟨m,⟨oc,es,ep,pC.1,r⟩,fun h' hsb=>?_⟩
  have Iu:Inv X pins σ' (upd H' D (.lst ys)) s'':=I''.pins_of fun p hp=>I''.pin p (List.mem_append_right _ (List.mem_append_left _ hp))
  exact ⟨σ',_,Iu.turned (t':=s''.toks) (it:=C) (fun b o hb e=>(hsb.2 b hb).trans e) pC.2.1 hL (.inr hsz) hcl hpn,q⟩
theorem pe_comp{elt iter:Expr}{x:Str}{px:Pos}{ifs:List Expr}{pos:Pos}{wi:TI}{tt:TT}{te:TE}(capt:List Nat)
  (hx0:∀ e s,¬X.xe e s) (hc:X.calm=true) (hi:PI X (.Name x px) iter wi)
  (hT:∀ C s H ex,PTs (cxComp X [x] capt scope C s H ex) ifs tt) (hE:∀ C s H ex,PE (cxComp X [x] capt scope C s H ex) elt te)
  (hk:compOk scope X.env.scope [x] (capt.map fun j=>X.N.getD j "")=true) (hcap:∀ j∈capt,j<X.N.length) (hnd:(x::capt.map fun j=>X.N.getD j "").Nodup)
  (hs:∀ y,foldedSetIterable iter X.env y=pure y:=by intro _;rfl):PE X (.ListComp elt [⟨.Name x px,iter,ifs,0⟩] scope pos) (tComp capt wi tt te):=by
 intro pins s σ H Q I h
 have ok:=compOk.mk hk
 rw [eval_ListComp]
 refine wpAny_comprehension_free (use:=none) (cl:=clOf X.env scope.names []) rfl hs (closure_clOf fun n k hm hf=>?_) ok.kind ok.names (thn (hi pins s σ H _ I h) fun xv s1 h1=>thn h1 fun itv s2 h2=>?_)
 ·obtain ⟨c,e⟩:=I.ok.has n (.inl (ok.free n k hm (by simpa using hf)))
  rw [e];rfl
 ·obtain ⟨it,fp,tn,J,H2,e,I2,T,st2,f2,hW⟩:=h2
  subst e
  refine comp_block (RR:=fun acc C=>compPost (model X.prog X.w) X.A X.xe none (EP X pins σ Q) acc C) hx0 hc ok hcap (xs:=[x]) (g:=gName 0) (fun C s H ex=>z_v hnd rfl (.inl (lookup_relabel_local (ok.x x (by simp)))) (.inr (lookup_relabel_local (ok.x x (by simp))))) shp_name hT hE I2 T st2 f2 (fun ys H=>∀ l,H l=none->Q (.ref l) (upd H l (.lst ys))) hW.g ?_
  intro D C s' ys H' oc hD fin I' hC ⟨m,hns⟩ hCD hCn hL _ hsz hcl hpn _
  refine ⟨m,hns,fun h' hsb=>⟨.ref D,_,I'.turned (t':=s'.toks) (it:=C) (fun b o hb e=>(hsb.2 b hb).trans e) (by rw [z_j hCD];exact hCn) hL (.inr hsz) hcl hpn,rfl,fin D hD⟩⟩
theorem ps_comp{elt iter:Expr}{x:Str}{px:Pos}{py:Pos}{ifs:List Expr}{pos spos:Pos}{wi:TI}{tt:TT}{te:TE}{i:Nat}{y:Str}(capt:List Nat)
  (hN:X.N.Nodup) (hiy:X.N[i]? = some y) (hy:Loc X.env.scope y)
  (hx0:∀ e s,¬X.xe e s) (hc:X.calm=true) (hi:PI X (.Name x px) iter wi)
  (hT:∀ C s H ex,PTs (cxComp X [x] capt scope C s H ex) ifs tt) (hE:∀ C s H ex,PE (cxComp X [x] capt scope C s H ex) elt te)
  (hk:compOk scope X.env.scope [x] (capt.map fun j=>X.N.getD j "")=true) (hcap:∀ j∈capt,j<X.N.length) (hnd:(x::capt.map fun j=>X.N.getD j "").Nodup)
  (hsw:swapsWith (.ListComp elt [⟨.Name x px,iter,ifs,0⟩] scope pos) (some (.Name y py)) spos.line X.env=pure true)
  (hs:∀ y,foldedSetIterable iter X.env y=pure y:=by intro _;rfl) (hf:X.fn y=true\/X.env.scope.names.lookup y=some .local:=by first | exact .inl rfl | exact .inr rfl | assumption) :
  PS X (.Assign [.Name y py] (.ListComp elt [⟨.Name x px,iter,ifs,0⟩] scope pos) spos) (tAsg (tComp capt wi tt te) (gName i)):=by
 intro pins s σ H D0 I h
 have ok:=compOk.mk hk
 rw [exec_Assign_Name_used _ _ _ _ hsw]
 refine wpAny_bind (wpAny_standAt (wpAny_bind ?_))
 show wpAny _ X.A (do let _ <-comprehension (.ListComp elt [⟨.Name x px,iter,ifs,0⟩] scope pos) scope X.env _ (newList []) false (eval iter X.env) (some (assign (.Name y py) X.env))) _ _ s
 refine wpAny_bind (wpAny_mono (wpAny_comprehension_free (use:=some (assign (.Name y py) X.env)) (cl:=clOf X.env scope.names []) (Q:=fun _ s'=>SP X pins D0 .next s') rfl hs (closure_clOf fun n k hm hf=>?_) ok.kind ok.names (thn (hi pins s σ H _ I h) fun xv s1 h1=>thn h1 fun itv s2 h2=>?_))
  (fun _ s' hq=>wpAny_pure (wpAny_pure hq)) fun _ _ e=>e)
 ·obtain ⟨c,e⟩:=I.ok.has n (.inl (ok.free n k hm (by simpa using hf)))
  rw [e];rfl
 ·obtain ⟨it,fp,tn,J,H2,e,I2,T,st2,f2,hW⟩:=h2
  subst e
  refine comp_block (RR:=fun acc C=>compPost (model X.prog X.w) X.A X.xe (some (assign (.Name y py) X.env)) (fun _ s'=>SP X pins D0 .next s') acc C) hx0 hc ok hcap (xs:=[x]) (g:=gName 0) (fun C s H ex=>z_v hnd rfl (.inl (lookup_relabel_local (ok.x x (by simp)))) (.inr (lookup_relabel_local (ok.x x (by simp))))) shp_name hT hE I2 T st2 f2 (fun ys H=>∀ l,H l=none->gName i (.ref l) σ (upd H l (.lst ys)) D0.nx) hW.g ?_
  intro D C s' ys H' oc hD fin I' hC ⟨m,hns⟩ hCD hCn hL hst hsz hcl hpn hnc
  show wpAny _ _ (assign (.Name y py) X.env (.ref D)) _ _ s'
  have hCf:C∉X.fs:=fun z=>by
   rcases I'.ok.stk with e | ⟨e,_⟩
   ·exact hst (by rw [e];exact z)
   ·refine hst ?_
    rw [e]
    unfold frs
    rw [List.filterMap_cons]
    split
    ·exact z
    ·exact List.mem_cons_of_mem _ z
  have Ip:Inv X (pins++[(C,oc)]) σ (upd H' D (.lst ys)) s':=I'.pins_of fun p hp=>(List.mem_append.mp hp).elim (fun z=>I'.pin p (List.mem_append_right _ z)) fun z=>by
   have z':p=(C,oc):=by simpa using z
   subst z'
   exact ⟨hC,by rw [z_j hCD];exact hCn,hL,hCf,hnc⟩
  have pg:=z_v (X:=X) (i:=i) (x:=y) (pos:=py) hN hiy hy hf
  refine thn (pg _ s' σ _ (.ref D) (.ref D) (fun σ' H''=>D0.nx σ' H''/\H''=upd H' D (.lst ys)) Ip rfl ⟨fin D hD,rfl⟩) fun _ s'' ⟨σ',H'',I'',q,eH⟩=>?_
  subst eH
  have pC:=I''.pin (C,oc) (by simp)
  obtain ⟨o,es,ep,ho,r⟩:=hns
  rw [hC] at ho
  cases ho
  refine ⟨m,⟨oc,es,ep,pC.1,r⟩,fun h' hsb=>?_⟩
  have Iu:Inv X pins σ' (upd H' D (.lst ys)) s'':=I''.pins_of fun p hp=>I''.pin p (List.mem_append_right _ (List.mem_append_left _ hp))
  exact ⟨σ',_,Iu.turned (t':=s''.toks) (it:=C) (fun b o hb e=>(hsb.2 b hb).trans e) pC.2.1 hL (.inr hsz) hcl hpn,q⟩
end
open PySem PySem.Spec PyProof.Rows
section
variable {X:Cx}
def bigB:Int:=1645504557321206042154969182557350504982735865633579863348609024
def CDivL(i j:Int):Prop:=0<j/\j<bigB
theorem log2_lt_of{n k:Nat}(h:n<2^k)(hk:0<k):n.log2<k:=by
 by_cases h0:n=0
 ·subst h0;simpa using hk
 ·exact (Nat.log2_lt h0).mpr h
theorem op_fdivL:OpR X (binaryOp .FloorDiv) (rI CDivL fun i j=>.int (i/j)):=opI fun i j _ _ _ _ _ hc q=>by
 have h1:(0:Int)<j:=hc.1
 have h2:j<bigB:=hc.2
 refine floordiv_int (by lia) (by rw [Int.fdiv_eq_ediv_of_nonneg i (by lia)];exact q) (.inl (PyProof.noPylong_of_log2 ?_))
 have h3:j.natAbs<2^210:=by
  have e:(2^210:Nat)=1645504557321206042154969182557350504982735865633579863348609024:=by decide
  unfold bigB at h2
  rw [e]
  lia
 exact Nat.lt_of_lt_of_le (log2_lt_of h3 (by decide)) (by decide)
theorem y_s{T:String}:CallR X (.builtin "isinstance") (fun xs H Q=>∃ x t b,xs=[x,.ty T]/\TyOf X.K H x t/\PySem.W.kitOne X.K t (.type T)=some b/\Q (.bl b) H):=by
 intro pins s σ H xs us Q I r h
 obtain ⟨x,t,b,rfl,ty,e,q⟩:=h
 obtain ⟨u,w',rfl,rx,rt⟩:=vals2 r
 cases rt
 exact isinst_ok I rx ty e fun tk=>⟨.bl b,H,I.tok _,rfl,q⟩
theorem bools_of{bs:List Bool}:∀ {us:List Value},Vals (bs.map V.bl) us->us=bs.map Value.bool:=by
 induction bs with
 | nil=>intro us r;cases r;rfl
 | cons b bs ih =>
  intro us r
  rw [List.map_cons] at r
  cases r with
  | cons r1 r2 =>
   cases r1
   rw [ih r2,List.map_cons]
theorem call_all:CallR X (.builtin "all") (fun xs H Q=>X.calm=true/\∃ (p:Addr) (bs:List Bool),xs=[.ref p]/\SqL X.K H p (bs.map V.bl)/\Q (.bl (bs.all id)) H):=by
 intro pins s σ H xs us Q I r h
 obtain ⟨hc,p,bs,rfl,hp,q⟩:=h
 obtain ⟨u,rfl,ru⟩:=vals1 r
 cases ru
 obtain ⟨its,rv,pl,hz⟩:=I.list hp
 have e:=bools_of rv
 subst e
 have hl:=pl.isList
 have hlt:p<s.heap.objs.size:=by obtain ⟨_,e,_⟩:=hl;exact Heap.lt_size e
 refine call_all_walk (wpAny_pyIter_list hl ?_)
 refine ⟨s.heap.objs.size,[s.heap.objs.size,p],[s.heap.objs.size],(bs.map Value.bool).toArray.size,_,_,fun i=>(bs[i]?).getD true,rfl,Walks.list (A:=X.A.in1) (I.ok.hd hc) _ p (Nat.ne_of_lt hlt) (bs.map Value.bool).toArray,
  ⟨⟨_,Heap.get?_push_size _ rfl,rfl,rfl⟩,hl.push _⟩,fun i v s' Q' E' hP hQ=>?_,fun h' tk hk=>?_⟩
 ·have hP':(bs.map Value.bool)[i]? = some v:=by simpa using hP
  rw [List.getElem?_map] at hP'
  cases e:bs[i]? with
  | none=>rw [e] at hP';cases hP'
  | some b =>
   rw [e] at hP'
   have ev:Value.bool b=v:=Option.some.inj hP'
   subst ev
   simp only [e,Option.getD_some] at hQ
   exact wpAny_truthy_bool hQ
 ·have e:((List.range (bs.map Value.bool).toArray.size).all fun i=>(bs[i]?).getD true)=bs.all id:=by
   rw [List.size_toArray,List.length_map]
   rw [Bool.eq_iff_iff,List.all_eq_true,List.all_eq_true]
   constructor
   ·intro h b hb
    obtain ⟨i,hi,rfl⟩:=List.mem_iff_getElem.mp hb
    have:=h i (List.mem_range.mpr hi)
    rw [List.getElem?_eq_getElem hi] at this
    exact this
   ·intro h i hi
    have hi':=List.mem_range.mp hi
    rw [List.getElem?_eq_getElem hi']
    exact h _ (List.getElem_mem hi')
  rw [e]
  exact ⟨.bl _,H,I.kept (t':=tk) fun b o eb=>hk b o (fun z=>by rw [List.mem_singleton.mp z] at eb;exact Nat.lt_irrefl _ (Heap.lt_size eb)) (Heap.get?_push_of_some _ eb),rfl,q⟩
theorem strs_of{ts:List Str}:∀ {us:List Value},Vals (ts.map V.str) us->StrsAre us ts:=by
 induction ts with
 | nil=>intro us r;cases r;exact .nil
 | cons x xs ih =>
  intro us r
  rw [List.map_cons] at r
  cases r with
  | cons r1 r2 =>
   obtain ⟨t,rfl⟩:=r1
   exact .cons x t (ih r2)
theorem mt_join:MtR X "str.join" (fun x xs H Q=>∃ (sep:Str) (p:Addr) (ts:List Str),x = .str sep/\xs=[.ref p]/\SqL X.K H p (ts.map V.str)/\(ts.map (·.length)).sum+ts.length*sep.length<=16777216/\Q (.str (Txt.join sep ts)) H):=by
 intro pins s σ H x xs v us Q I rx r h
 obtain ⟨sep,p,ts,rfl,rfl,hp,hz,q⟩:=h
 obtain ⟨t,rfl⟩:=rx
 obtain ⟨u,rfl,ru⟩:=vals1 r
 cases ru
 obtain ⟨its,rv,pl,_⟩:=I.list hp
 exact PyProof.Rows.join_list pl.isList (by simpa using strs_of rv) hz fun t' k=>⟨.str _,H,I.tok _,⟨_,rfl⟩,q⟩
end
section
variable {S:V->St} {tt:TT} {te:TE} {H:Hp} {Fin:List V->Hp->Prop}
theorem comp_range{lo:Int}{n:Nat}(Pv:Nat->List V->Hp->Prop)(h0:Pv 0 [] H)(hz:∀ i ys H,i<n->Pv i ys H->ys.length<sizeLine)
  (hs:∀ i ys H,i<n->Pv i ys H->tt (S (.int (lo+i))) H fun b H2=>if b=true then te (S (.int (lo+i))) H2 fun y H3=>Pv (i+1) (ys++[y]) H3 else Pv (i+1) ys H2)
  (hd:∀ ys H,Pv n ys H->Fin ys H):CompW (Itr lo n) S tt te H Fin:=by
 refine ⟨fun i m ys H=>m=n-i/\i<=n/\Pv i ys H,⟨n,by simp,Nat.zero_le _,h0⟩,?_⟩
 rintro i m ys H ⟨rfl,hi,p⟩
 by_cases hlt:i<n
 ·refine .inr ⟨hlt,hz i ys H hlt p,Pv (i+1),fun ys' H' p'=>⟨n-(i+1),by lia,rfl,hlt,p'⟩,fun x H' y=>?_⟩
  obtain ⟨e,y⟩:=y
  subst e y
  exact hs i ys _ hlt p
 ·have e:i=n:=by lia
  subst e
  exact .inl ⟨Nat.le_refl _,hd ys H p⟩
theorem comp_list{K:PySem.W.Frag}{a:Addr}{xs:List V}(Pv:Nat->List V->Hp->Prop)(h0:Pv 0 [] H)(hl:∀ i ys H,i<=xs.length->Pv i ys H->SqL K H a xs)(hz:∀ i ys H,i<xs.length->Pv i ys H->ys.length<sizeLine)
  (hs:∀ i x ys H,xs[i]? = some x->Pv i ys H->tt (S x) H fun b H2=>if b=true then te (S x) H2 fun y H3=>Pv (i+1) (ys++[y]) H3 else Pv (i+1) ys H2)
  (hd:∀ ys H,Pv xs.length ys H->Fin ys H):CompW (Itl K a) S tt te H Fin:=by
 refine ⟨fun i m ys H=>m=xs.length-i/\i<=xs.length/\Pv i ys H,⟨xs.length,by simp,Nat.zero_le _,h0⟩,?_⟩
 rintro i m ys H ⟨rfl,hi,p⟩
 have q:=hl i ys H hi p
 by_cases hlt:i<xs.length
 ·refine .inr ⟨⟨xs,xs[i],q,by simp [hlt]⟩,hz i ys H hlt p,Pv (i+1),fun ys' H' p'=>⟨xs.length-(i+1),by lia,rfl,hlt,p'⟩,fun x H' y=>?_⟩
  obtain ⟨e,y⟩:=y
  subst e
  exact hs i x ys _ (y xs q) p
 ·have e:i=xs.length:=by lia
  subst e
  exact .inl ⟨⟨xs,q,Nat.le_refl _⟩,hd ys H p⟩
theorem comp_tup{K:PySem.W.Frag}{a:Addr}{xs:List V}(Pv:Nat->List V->Hp->Prop)(h0:Pv 0 [] H)(hl:∀ i ys H,i<=xs.length->Pv i ys H->SqT K H a xs)(hz:∀ i ys H,i<xs.length->Pv i ys H->ys.length<sizeLine)
  (hs:∀ i x ys H,xs[i]? = some x->Pv i ys H->tt (S x) H fun b H2=>if b=true then te (S x) H2 fun y H3=>Pv (i+1) (ys++[y]) H3 else Pv (i+1) ys H2)
  (hd:∀ ys H,Pv xs.length ys H->Fin ys H):CompW (Itt K a) S tt te H Fin:=by
 refine ⟨fun i m ys H=>m=xs.length-i/\i<=xs.length/\Pv i ys H,⟨xs.length,by simp,Nat.zero_le _,h0⟩,?_⟩
 rintro i m ys H ⟨rfl,hi,p⟩
 have q:=hl i ys H hi p
 by_cases hlt:i<xs.length
 ·refine .inr ⟨⟨xs,xs[i],q,by simp [hlt]⟩,hz i ys H hlt p,Pv (i+1),fun ys' H' p'=>⟨xs.length-(i+1),by lia,rfl,hlt,p'⟩,fun x H' y=>?_⟩
  obtain ⟨e,y⟩:=y
  subst e
  exact hs i x ys _ (y xs q) p
 ·have e:i=xs.length:=by lia
  subst e
  exact .inl ⟨⟨xs,q,Nat.le_refl _⟩,hd ys H p⟩
end
structure TopD(w:World)(K:PySem.W.Frag)(a:Addr)(kvs:List (Str×V)):Prop where
 ex:∃ es n,K.lookup a=some ⟨.type "dict",none,.dict es n,#[]⟩/\PySem.W.KeysLit w.params es.toList/\Paired (fun (p:Str×V) (e:DictEntry)=>(∃ t,e.key = .str p.1 t)/\RelV p.2 e.val) kvs es.toList
 lo:(a == sysModules)=false
theorem top_find{x:Str}:∀ {kvs:List (Str×V)} {l:List DictEntry},Paired (fun (p:Str×V) (e:DictEntry)=>(∃ t,e.key = .str p.1 t)/\RelV p.2 e.val) kvs l ->
  RelO (kvs.lookup x) ((l.find? fun e=>Value.isStrOf x e.key).map (·.val))
 | _,_,.nil=>trivial
 | (k,v)::kvs,e::l,.cons ⟨⟨t,ek⟩,rv⟩ r=>by
  rw [List.lookup_cons,List.find?_cons]
  have hk:Value.isStrOf x e.key=(x == k):=by
   rw [ek]
   show (k == x)=(x == k)
   by_cases hx:x=k
   ·subst hx;rfl
   ·have h1:(x == k)=false:=by simpa using hx
    have h2:(k == x)=false:=by simpa using fun z=>hx (Eq.symm z)
    rw [h1,h2]
  rw [hk]
  cases hx:x == k with
  | true=>exact rv
  | false=>exact top_find r
theorem TopD.find{w:World}{K:PySem.W.Frag}{a:Addr}{kvs:List (Str×V)}(D:TopD w K a kvs)(x:Str):∃ es n,K.lookup a=some ⟨.type "dict",none,.dict es n,#[]⟩/\PySem.W.KeysLit w.params es.toList/\RelO (kvs.lookup x) (findBy Value.isStrOf es x):=by
 obtain ⟨es,n,h1,h2,h3⟩:=D.ex
 refine ⟨es,n,h1,h2,?_⟩
 have q:=top_find (x:=x) h3
 unfold findBy
 rw [<-Array.find?_toList]
 exact q
section
variable {X:Cx} {a:Addr} {kvs:List (Str×V)}
theorem ix_top(D:TopD X.w X.K a kvs):IxR X (fun x y H Q=>∃ z v,x = .ref a/\y = .str z/\kvs.lookup z=some v/\Q v H):=by
 intro value slice pins s σ H x y v u Q I rx ry h hs
 obtain ⟨z,r,rfl,rfl,hz,q⟩:=h
 cases rx
 obtain ⟨t,rfl⟩:=ry
 obtain ⟨es,n,h1,h2,h3⟩:=D.find z
 rw [hz] at h3
 obtain ⟨u,hu,ru⟩:=RelO.some_of h3
 have hm:=PySem.W.mapOf_K (prog:=X.prog) (w:=X.w) I.kIn h1 h2
 exact tail_any hm.typeIs slot_dict_getitem.lookup (wpAny_getItem_of (strKind_is _ _ z t) hm hu ⟨r,H,I.tok _,ru,q⟩) hs
end
def constV:Expr->Option V
 | .Constant (.str x) _ _=>some (.str x)
 | .Constant (.int i) _ _=>some (.int i)
 | .Constant (.bool b) _ _=>some (.bl b)
 | .Constant .none _ _=>some .non
 | _=>none
def constsV:List Expr->Option (List V)
 | []=>some []
 | e::r=>match constV e,constsV r with
  | some v,some vs=>some (v::vs)
  | _,_=>none
def tVals(vs:List V):TA:=fun _ H Q=>Q vs H
theorem pa_consts{X:Cx}:∀ {es:List Expr} {vs:List V},constsV es=some vs->PA X es (tVals vs)
 | [],vs,h=>by
  cases h
  exact z_d
 | e::r,vs,h=>by
  unfold constsV at h
  cases he:constV e with
  | none=>rw [he] at h;cases h
  | some v =>
   cases hr:constsV r with
   | none=>rw [he,hr] at h;cases h
   | some ws =>
    rw [he,hr] at h
    have h':v::ws=vs:=Option.some.inj h
    subst h'
    have ih:=pa_consts (X:=X) hr
    unfold constV at he
    split at he
    ·cases he
     exact z_a (te:=tC (.str _)) z_t ih
    ·cases he
     exact z_a (te:=tC (.int _)) z_e ih
    ·cases he
     exact z_a (te:=tC (.bl _)) pe_bl ih
    ·cases he
     exact z_a (te:=tC .non) pe_non ih
    ·cases he
@[irreducible] def bigL(es:List Expr)(pos:Pos):Expr:=.List es pos
@[irreducible] def bigT(es:List Expr)(k:Nat)(pos:Pos):Expr:=.Tuple es k pos
theorem bigL_eq(a b c d e:Expr)(es:List Expr)(pos:Pos):Expr.List (a::b::c::d::e::es) pos=bigL (a::b::c::d::e::es) pos:=by unfold bigL;rfl
theorem bigT_eq(a b c d e:Expr)(es:List Expr)(k:Nat)(pos:Pos):Expr.Tuple (a::b::c::d::e::es) k pos=bigT (a::b::c::d::e::es) k pos:=by unfold bigT;rfl
theorem pe_consts{X:Cx}{es:List Expr}{vs:List V}(h:constsV es=some vs)(pos:Pos):PE X (.List es pos) (tLst (tVals vs)):=y_h (pa_consts h)
theorem pe_bigL{X:Cx}{es:List Expr}{vs:List V}{pos:Pos}(h:constsV es=some vs):PE X (bigL es pos) (tLst (tVals vs)):=by
 unfold bigL
 exact pe_consts h pos
end L2
namespace L2
open PySem PySem.Spec PyProof.Rows PySem.SeqAt
mutual
def RdD(K:PySem.W.Frag)(H:Hp):PyData->V->Prop
 | .none,v=>v = .non
 | .bool b,v=>v = .bl b
 | .int i,v=>v = .int i
 | .str x,v=>v = .str x
 | .list ds,v=>∃ p xs,v = .ref p/\SqL K H p xs/\RdDs K H ds xs
 | .tuple ds,v=>∃ p xs,v = .ref p/\SqT K H p xs/\RdDs K H ds xs
 | .dict _,_=>False
def RdDs(K:PySem.W.Frag)(H:Hp):List PyData->List V->Prop
 | [],xs=>xs=[]
 | d::ds,xs=>∃ x r,xs=x::r/\RdD K H d x/\RdDs K H ds r
end
section
variable {K:PySem.W.Frag} {H H':Hp}
theorem RdDs.ints(ns:List Int):RdDs K H (ns.map PyData.int) (ns.map V.int):=by
 induction ns with
 | nil=>unfold RdDs;rfl
 | cons n r ih =>
  show RdDs K H (PyData.int n::r.map PyData.int) (V.int n::r.map V.int)
  unfold RdDs
  exact ⟨_,_,rfl,by unfold RdD;rfl,ih⟩
theorem RdDs.cons{d:PyData}{ds:List PyData}{x:V}{xs:List V}(h:RdD K H d x)(r:RdDs K H ds xs):RdDs K H (d::ds) (x::xs):=by
 unfold RdDs
 exact ⟨x,xs,rfl,h,r⟩
theorem RdDs.nil:RdDs K H [] []:=by unfold RdDs;rfl
theorem RdD.int(i:Int):RdD K H (.int i) (.int i):=by unfold RdD;rfl
theorem RdD.bl(i:Bool):RdD K H (.bool i) (.bl i):=by unfold RdD;rfl
theorem RdD.str(i:Str):RdD K H (.str i) (.str i):=by unfold RdD;rfl
theorem RdD.non:RdD K H .none .non:=by unfold RdD;rfl
theorem RdD.lst{ds:List PyData}{p:Addr}{xs:List V}(h:SqL K H p xs)(r:RdDs K H ds xs):RdD K H (.list ds) (.ref p):=by
 unfold RdD
 exact ⟨p,xs,rfl,h,r⟩
theorem RdD.tup{ds:List PyData}{p:Addr}{xs:List V}(h:SqT K H p xs)(r:RdDs K H ds xs):RdD K H (.tuple ds) (.ref p):=by
 unfold RdD
 exact ⟨p,xs,rfl,h,r⟩
end
def Cmp(n:Nat)(d:PyData):Prop:=d.canLay0=true/\d.depth<=n
theorem Cmp.int{n:Nat}(i:Int):Cmp n (.int i):=⟨by simp [PyData.canLay0],by simp [PyData.depth]⟩
theorem cmpAll{n:Nat}:∀ {ds:List PyData},(∀ d∈ds,Cmp n d)->PyData.canLayAll0 ds=true/\PyData.depthAll ds<=n
 | [],_=>⟨by simp [PyData.canLayAll0],by simp [PyData.depthAll]⟩
 | d::ds,h=>by
  obtain ⟨h1,h2⟩:=h d List.mem_cons_self
  obtain ⟨h3,h4⟩:=cmpAll (ds:=ds) fun e he=>h e (List.mem_cons_of_mem _ he)
  refine ⟨by simp [PyData.canLayAll0,h1,h3],?_⟩
  simp only [PyData.depthAll]
  lia
theorem Cmp.list{n:Nat}{ds:List PyData}(h:∀ d∈ds,Cmp n d):Cmp (n+1) (.list ds):=by
 obtain ⟨h1,h2⟩:=cmpAll h
 exact ⟨by simp [PyData.canLay0,h1],by simp only [PyData.depth];lia⟩
theorem Cmp.tuple{n:Nat}{ds:List PyData}(h:∀ d∈ds,Cmp n d):Cmp (n+1) (.tuple ds):=by
 obtain ⟨h1,h2⟩:=cmpAll h
 exact ⟨by simp [PyData.canLay0,h1],by simp only [PyData.depth];lia⟩
theorem Cmp.mono{n m:Nat}{d:PyData}(h:Cmp n d)(l:n<=m):Cmp m d:=⟨h.1,Nat.le_trans h.2 l⟩
theorem Cmp.ints{n:Nat}(ns:List Int):∀ d∈ns.map PyData.int,Cmp n d:=fun d hd=>by
 obtain ⟨i,_,rfl⟩:=List.mem_map.mp hd
 exact .int i
mutual
theorem eqv_self:∀ {d:PyData},d.canLay0=true->PyData.eqv d d=true
 | .none,_=>by simp [PyData.eqv]
 | .bool _,_=>by simp [PyData.eqv]
 | .int _,_=>by simp [PyData.eqv]
 | .str _,_=>by simp [PyData.eqv]
 | .list ds,h=>by
  rw [PyData.eqv]
  exact eqvAll_self (by simpa [PyData.canLay0] using h)
 | .tuple ds,h=>by
  rw [PyData.eqv]
  exact eqvAll_self (by simpa [PyData.canLay0] using h)
 | .dict _,h=>by simp [PyData.canLay0] at h
theorem eqvAll_self:∀ {ds:List PyData},PyData.canLayAll0 ds=true->PyData.eqvAll ds ds=true
 | [],_=>by simp [PyData.eqvAll]
 | d::ds,h=>by
  have h':(PyData.canLay0 d&&PyData.canLayAll0 ds)=true:=by simpa [PyData.canLayAll0] using h
  obtain ⟨h1,h2⟩:=Bool.and_eq_true_iff.mp h'
  rw [PyData.eqvAll,eqv_self h1,eqvAll_self h2]
  rfl
end
theorem eqvAll_ints:∀ (a b:List Int),PyData.eqvAll (a.map PyData.int) (b.map PyData.int)=decide (a=b)
 | [],[]=>by simp [PyData.eqvAll]
 | [],_::_=>by simp [PyData.eqvAll]
 | _::_,[]=>by simp [PyData.eqvAll]
 | x::a,y::b=>by
  show PyData.eqvAll (PyData.int x::a.map PyData.int) (PyData.int y::b.map PyData.int)=_
  rw [PyData.eqvAll,eqvAll_ints a b,PyData.eqv]
  by_cases h:x=y<;>simp [h]
section
variable {X:Cx} {pins:List (Addr×Obj)} {σ:St} {H:Hp} {s:Shared}
mutual
theorem Inv.reads(I:Inv X pins σ H s):∀ {d:PyData} {x:V} {v:Value},RdD X.K H d x->RelV x v->∃ as,Reads s.heap v d as
 | .none,_,_,h,r=>by unfold RdD at h;subst h;cases r;exact ⟨_,.none⟩
 | .bool b,_,_,h,r=>by unfold RdD at h;subst h;cases r;exact ⟨_,.bool b⟩
 | .int i,_,_,h,r=>by unfold RdD at h;subst h;obtain ⟨t,rfl⟩:=r;exact ⟨_,.int i t⟩
 | .str i,_,_,h,r=>by unfold RdD at h;subst h;obtain ⟨t,rfl⟩:=r;exact ⟨_,.str i t⟩
 | .list ds,_,_,h,r=>by
  unfold RdD at h
  obtain ⟨p,xs,rfl,h2,h3⟩:=h
  cases r
  obtain ⟨its,rv,⟨o,n,e1,e2,e3,e4⟩,_⟩:=I.list h2
  obtain ⟨as,ra⟩:=Inv.readsAll I h3 rv
  exact ⟨_,.list e1 e2 e4 (by simpa using ra)⟩
 | .tuple ds,_,_,h,r=>by
  unfold RdD at h
  obtain ⟨p,xs,rfl,h2,h3⟩:=h
  cases r
  obtain ⟨its,rv,⟨o,e1,e2,n,e4⟩,_⟩:=I.tuple h2
  obtain ⟨as,ra⟩:=Inv.readsAll I h3 rv
  exact ⟨_,.tuple e1 e2 e4 (by simpa using ra)⟩
 | .dict _,_,_,h,_=>by unfold RdD at h;exact h.elim
theorem Inv.readsAll(I:Inv X pins σ H s):∀ {ds:List PyData} {xs:List V} {vs:List Value},RdDs X.K H ds xs->Vals xs vs->∃ as,ReadsAll s.heap vs ds as
 | [],_,_,h,r=>by unfold RdDs at h;subst h;cases r;exact ⟨_,.nil⟩
 | d::ds,_,_,h,r=>by
  unfold RdDs at h
  obtain ⟨x,q,rfl,h2,h3⟩:=h
  cases r with
  | cons r1 r2 =>
   obtain ⟨as,ra⟩:=Inv.reads I h2 r1
   obtain ⟨bs,rb⟩:=Inv.readsAll I h3 r2
   exact ⟨_,.cons ra rb⟩
end
def rEqD(K:PySem.W.Frag)(no:Bool):R2:=fun x y H Q=>∃ dx dy,RdD K H dx x/\RdD K H dy y/\Cmp 64 dx/\Cmp 64 dy/\Q (.bl (no ^^ PyData.eqv dx dy)) H
theorem Cmp.shaped{d:PyData}(h:Cmp 64 d):shaped d=true:=by
 unfold SeqAt.shaped
 rw [h.1,decide_eq_true h.2]
 rfl
theorem op_eqD(hu:X.A.units+64<cLine):OpR X (compareOp .Eq) (rEqD X.K false):=by
 intro pins s σ H x y v u Q I rx ry h
 obtain ⟨dx,dy,hx,hy,cx,cy,q⟩:=h
 obtain ⟨as,ra⟩:=I.reads hx rx
 obtain ⟨bs,rb⟩:=I.reads hy ry
 rw [Bool.false_xor] at q
 exact compareEq_shaped ra rb cx.shaped cy.shaped hu ⟨.bl _,H,I,rfl,q⟩
theorem op_neD(hu:X.A.units+64<cLine):OpR X (compareOp .NotEq) (rEqD X.K true):=by
 intro pins s σ H x y v u Q I rx ry h
 obtain ⟨dx,dy,hx,hy,cx,cy,q⟩:=h
 obtain ⟨as,ra⟩:=I.reads hx rx
 obtain ⟨bs,rb⟩:=I.reads hy ry
 rw [Bool.true_xor] at q
 exact compareNe_shaped ra rb cx.shaped cy.shaped hu ⟨.bl _,H,I,rfl,q⟩
end
theorem rEqD.eq{K:PySem.W.Frag}{x y:V}{H:Hp}{Q:VK}{no:Bool}(d:PyData)(hx:RdD K H d x)(hy:RdD K H d y)(c:Cmp 64 d)(q:Q (.bl (!no)) H):rEqD K no x y H Q :=
 ⟨d,d,hx,hy,c,c,by rw [eqv_self c.1,Bool.xor_true];exact q⟩
open PySem PySem.Spec PyProof.Rows
section
variable {X:Cx} {K:PySem.W.Frag} (h:X.K=K)
include h
theorem ix_tupK:IxR X (rIxT K):=by subst h;exact ix_tup
theorem pi_tupK{tg l:Expr}{tl:TE}(hl:PE X l tl):PI X tg l (iTup K tl):=by subst h;exact pi_tup hl
theorem call_isinstK{T:String}:CallR X (.builtin "isinstance") (fun xs H Q=>∃ x t b,xs=[x,.ty T]/\TyOf K H x t/\PySem.W.kitOne K t (.type T)=some b/\Q (.bl b) H):=by subst h;exact y_s
end
end L2
namespace L2
open PySem PySem.Spec
theorem z_c{H:Hp}{p:Addr}(h:H p=none)(o:HO):Same H (upd H p o):=fun b u q=>by rw [z_j (z_g q h)];exact q
theorem x_u{H H':Hp}{p:Addr}(s:Same H H')(n:H p=none)(o:HO):Same H (upd H' p o):=fun b u q=>by rw [z_j (z_g q n)];exact s b u q
theorem small{n:Nat}(h:n<=100000):n<=sizeLine:=Nat.le_trans h (by decide)
theorem y_b{n:Nat}(h:n<=100000):n<sizeLine:=Nat.lt_of_le_of_lt h (by decide)
def Drawn(rs:List Int):Prop:=∀ r∈rs,0<=r/\r<1000000
theorem pairedMono{α β:Type}{R S:α->β->Prop}(h:∀ a b,R a b->S a b):∀ {xs:List α} {ys:List β},Paired R xs ys->Paired S xs ys
 | _,_,.nil=>.nil
 | _,_,.cons a b=>.cons (h _ _ a) (pairedMono h b)
theorem pairedApp{α β:Type}{R:α->β->Prop}{us:List α}{vs:List β}(h:Paired R us vs):∀ {xs:List α} {ys:List β},Paired R xs ys->Paired R (xs++us) (ys++vs)
 | _,_,.nil=>h
 | _,_,.cons a b=>.cons a (pairedApp h b)
theorem cut_from{xs:List V}{n:Nat}(h:n<=xs.length):cutV xs (some (n:Int)) none=xs.drop n:=by
 unfold cutV
 rw [HT.sIx_nat,HT.sIx_none,Nat.min_eq_left h,List.take_of_length_le (by rw [List.length_drop];lia)]
theorem cut_to{xs:List V}{n:Nat}(h:n<=xs.length):cutV xs none (some (n:Int))=xs.take n:=by
 unfold cutV
 rw [HT.sIx_nat,HT.sIx_none,Nat.min_eq_left h,List.drop_zero,Nat.sub_zero]
theorem ite_f{c:Bool}{A B:Prop}(h:c=false)(q:B):if c=true then A else B:=by rw [h];exact q
theorem ite_t{c:Bool}{A B:Prop}(h:c=true)(q:A):if c=true then A else B:=by rw [h];exact q
end L2
namespace L2
open PySem PySem.Spec
section
variable {K:PySem.W.Frag} {a:Addr} {S:V->St} {te:TE} {H:Hp} {Fin:List V->Hp->Prop}
theorem comp_range_map{lo:Int}{n:Nat}(f:Nat->V)(hz:n<=100000)(hs:∀ i,i<n->∀ N:V->Hp->Prop,N (f i) H->te (S (.int (lo+i))) H N)(hd:Fin ((List.range n).map f) H):CompW (Itr lo n) S tYes te H Fin:=by
 refine comp_range (fun i ys H'=>ys=(List.range i).map f/\H=H') ⟨rfl,rfl⟩ ?_ ?_ ?_
 ·rintro i ys H' hi ⟨rfl,_⟩
  rw [List.length_map,List.length_range]
  exact y_b (by lia)
 ·rintro i ys H' hi ⟨rfl,rfl⟩
  unfold tYes
  dsimp only
  rw [if_pos rfl]
  refine hs i hi _ ⟨?_,rfl⟩
  rw [List.range_succ,List.map_append]
  rfl
 ·rintro ys H' ⟨rfl,rfl⟩
  exact hd
end
end L2
namespace L2
open PySem PySem.Spec
end L2
namespace L2
open PySem PySem.Spec
end L2
namespace L2
open PySem PySem.Spec PyProof.Rows
mutual
def Dat(H:Hp):PyData->V->Prop
 | .none,v=>v = .non
 | .bool b,v=>v = .bl b
 | .int i,v=>v = .int i
 | .str x,v=>v = .str x
 | .list ds,v=>∃ p xs,v = .ref p/\H p=some (.lst xs)/\Dats H ds xs
 | .tuple ds,v=>∃ p xs,v = .ref p/\H p=some (.tup xs)/\Dats H ds xs
 | .dict _,_=>False
def Dats(H:Hp):List PyData->List V->Prop
 | [],xs=>xs=[]
 | d::ds,xs=>∃ x r,xs=x::r/\Dat H d x/\Dats H ds r
end
section
variable {H H':Hp}
mutual
theorem Dat.same(e:Same H H'):∀ {d:PyData} {v:V},Dat H d v->Dat H' d v
 | .none,_,h=>by unfold Dat at *;exact h
 | .bool _,_,h=>by unfold Dat at *;exact h
 | .int _,_,h=>by unfold Dat at *;exact h
 | .str _,_,h=>by unfold Dat at *;exact h
 | .list ds,_,h=>by
  unfold Dat at *
  obtain ⟨p,xs,h1,h2,h3⟩:=h
  exact ⟨p,xs,h1,e _ _ h2,Dats.same e h3⟩
 | .tuple ds,_,h=>by
  unfold Dat at *
  obtain ⟨p,xs,h1,h2,h3⟩:=h
  exact ⟨p,xs,h1,e _ _ h2,Dats.same e h3⟩
 | .dict _,_,h=>by unfold Dat at h;exact h.elim
theorem Dats.same(e:Same H H'):∀ {ds:List PyData} {xs:List V},Dats H ds xs->Dats H' ds xs
 | [],_,h=>by unfold Dats at *;exact h
 | d::ds,_,h=>by
  unfold Dats at *
  obtain ⟨x,r,h1,h2,h3⟩:=h
  exact ⟨x,r,h1,Dat.same e h2,Dats.same e h3⟩
end
mutual
theorem Dat.rd{K:PySem.W.Frag}:∀ {d:PyData} {v:V},Dat H d v->RdD K H d v
 | .none,_,h=>by unfold Dat at h;subst h;exact .non
 | .bool _,_,h=>by unfold Dat at h;subst h;exact .bl _
 | .int _,_,h=>by unfold Dat at h;subst h;exact .int _
 | .str _,_,h=>by unfold Dat at h;subst h;exact .str _
 | .list ds,_,h=>by
  unfold Dat at h
  obtain ⟨p,xs,rfl,h2,h3⟩:=h
  exact RdD.lst (SqL.of h2) (Dats.rd h3)
 | .tuple ds,_,h=>by
  unfold Dat at h
  obtain ⟨p,xs,rfl,h2,h3⟩:=h
  exact RdD.tup (SqT.of h2) (Dats.rd h3)
 | .dict _,_,h=>by unfold Dat at h;exact h.elim
theorem Dats.rd{K:PySem.W.Frag}:∀ {ds:List PyData} {xs:List V},Dats H ds xs->RdDs K H ds xs
 | [],_,h=>by unfold Dats at h;subst h;exact .nil
 | d::ds,_,h=>by
  unfold Dats at h
  obtain ⟨x,r,rfl,h2,h3⟩:=h
  exact .cons (Dat.rd h2) (Dats.rd h3)
end
theorem Dat.int(i:Int):Dat H (.int i) (.int i):=by unfold Dat;rfl
theorem Dat.str(x:Str):Dat H (.str x) (.str x):=by unfold Dat;rfl
theorem Dat.lst{ds:List PyData}{p:Addr}{xs:List V}(h:H p=some (.lst xs))(r:Dats H ds xs):Dat H (.list ds) (.ref p):=by unfold Dat;exact ⟨p,xs,rfl,h,r⟩
theorem Dat.tup{ds:List PyData}{p:Addr}{xs:List V}(h:H p=some (.tup xs))(r:Dats H ds xs):Dat H (.tuple ds) (.ref p):=by unfold Dat;exact ⟨p,xs,rfl,h,r⟩
theorem Dats.nil:Dats H [] []:=by unfold Dats;rfl
theorem Dats.cons{d:PyData}{ds:List PyData}{x:V}{xs:List V}(h:Dat H d x)(r:Dats H ds xs):Dats H (d::ds) (x::xs):=by unfold Dats;exact ⟨x,xs,rfl,h,r⟩
theorem Dats.ints(ns:List Int):Dats H (ns.map PyData.int) (ns.map V.int):=by
 induction ns with
 | nil=>exact .nil
 | cons n r ih=>exact .cons (.int n) ih
theorem Dats.length{ds:List PyData}{xs:List V}(a:Dats H ds xs):ds.length=xs.length:=by
 induction ds generalizing xs with
 | nil=>unfold Dats at a;subst a;rfl
 | cons d r ih =>
  unfold Dats at a
  obtain ⟨x,q,rfl,h1,h2⟩:=a
  simp [ih h2]
theorem Dats.get{ds:List PyData}{xs:List V}(a:Dats H ds xs){i:Nat}{x:V}(h:xs[i]? = some x):∃ d,ds[i]? = some d/\Dat H d x:=by
 induction ds generalizing xs i with
 | nil=>unfold Dats at a;subst a;simp at h
 | cons d r ih =>
  unfold Dats at a
  obtain ⟨y,q,rfl,h1,h2⟩:=a
  cases i with
  | zero=>simp at h;subst h;exact ⟨d,rfl,h1⟩
  | succ k=>exact ih h2 (by simpa using h)
theorem Dats.append{ds es:List PyData}{xs ys:List V}(a:Dats H ds xs)(b:Dats H es ys):Dats H (ds++es) (xs++ys):=by
 induction ds generalizing xs with
 | nil=>unfold Dats at a;subst a;exact b
 | cons d r ih =>
  unfold Dats at a
  obtain ⟨x,q,rfl,h1,h2⟩:=a
  exact .cons h1 (ih h2)
theorem Dats.take{ds:List PyData}{xs:List V}(a:Dats H ds xs)(n:Nat):Dats H (ds.take n) (xs.take n):=by
 induction ds generalizing xs n with
 | nil=>unfold Dats at a;subst a;simp;exact .nil
 | cons d r ih =>
  unfold Dats at a
  obtain ⟨x,q,rfl,h1,h2⟩:=a
  cases n with
  | zero=>exact .nil
  | succ n=>exact .cons h1 (ih h2 n)
theorem Dats.drop{ds:List PyData}{xs:List V}(a:Dats H ds xs)(n:Nat):Dats H (ds.drop n) (xs.drop n):=by
 induction ds generalizing xs n with
 | nil=>unfold Dats at a;subst a;simp;exact .nil
 | cons d r ih =>
  cases n with
  | zero=>exact a
  | succ n =>
   unfold Dats at a
   obtain ⟨x,q,rfl,h1,h2⟩:=a
   exact ih h2 n
end
theorem Dat.tupI{H:Hp}{ds:List PyData}{v:V}(h:Dat H (.tuple ds) v):∃ p xs,v = .ref p/\H p=some (.tup xs)/\Dats H ds xs:=by unfold Dat at h;exact h
theorem Dat.lstI{H:Hp}{ds:List PyData}{v:V}(h:Dat H (.list ds) v):∃ p xs,v = .ref p/\H p=some (.lst xs)/\Dats H ds xs:=by unfold Dat at h;exact h
theorem Dat.intI{H:Hp}{i:Int}{v:V}(h:Dat H (.int i) v):v = .int i:=by unfold Dat at h;exact h
theorem Dats.consI{H:Hp}{d:PyData}{ds:List PyData}{xs:List V}(h:Dats H (d::ds) xs):∃ x r,xs=x::r/\Dat H d x/\Dats H ds r:=by unfold Dats at h;exact h
theorem Dats.nilI{H:Hp}{xs:List V}(h:Dats H [] xs):xs=[]:=by unfold Dats at h;exact h
open PySem PySem.Spec
def Bag(H:Hp)(l:Addr):Prop:=∃ b0 b1:Int,H l=some (.lst [.int b0,.int b1])/\0<=b0
def Bg(l:Addr)(H H':Hp):Prop:=(∀ b o,b≠l->H b=some o->H' b=some o)/\Bag H' l
theorem Bg.trans{l:Addr}{H H1 H2:Hp}(a:Bg l H H1)(b:Bg l H1 H2):Bg l H H2:=⟨fun c o n e=>b.1 c o n (a.1 c o n e),b.2⟩
theorem Bg.refl{l:Addr}{H:Hp}(b:Bag H l):Bg l H H:=⟨fun _ _ _ e=>e,b⟩
theorem Bag.ne{H:Hp}{l p:Addr}(b:Bag H l)(n:H p=none):p≠l:=fun e=>by
 obtain ⟨_,_,h,_⟩:=b
 rw [e,h] at n;cases n
theorem Bag.neT{H:Hp}{l p:Addr}{xs:List V}(b:Bag H l)(n:H p=some (.tup xs)):p≠l:=fun e=>by
 obtain ⟨_,_,h,_⟩:=b
 rw [e,h] at n;cases n
theorem Bg.new{l p:Addr}{H:Hp}(b:Bag H l)(n:H p=none)(o:HO):Bg l H (upd H p o):=by
 refine ⟨fun c u _ e=>by rw [z_j (z_g e n)];exact e,?_⟩
 obtain ⟨b0,b1,h,h0⟩:=b
 exact ⟨b0,b1,by rw [z_j (z_g h n)];exact h,h0⟩
theorem Bg.put{l:Addr}{H:Hp}(b0 b1:Int)(h0:0<=b0):Bg l H (upd H l (.lst [.int b0,.int b1])) :=
 ⟨fun c u n e=>by rw [z_j n];exact e,b0,b1,z_b,h0⟩
theorem Bag.set{l p:Addr}{H:Hp}(b:Bag H l)(hp:p≠l)(o:HO):Bag (upd H p o) l:=by
 obtain ⟨b0,b1,h,h0⟩:=b
 exact ⟨b0,b1,by rw [z_j (Ne.symm hp)];exact h,h0⟩
theorem Bg.set{l p:Addr}{H H':Hp}(b:Bg l H H')(n:H p=none)(hp:p≠l)(o:HO):Bg l H (upd H' p o) :=
 ⟨fun c u nc e=>by rw [z_j (z_g e n)];exact b.1 c u nc e,b.2.set hp o⟩
theorem Bag.same{H H':Hp}{l:Addr}(b:Bag H l)(s:Same H H'):Bg l H H':=by
 obtain ⟨b0,b1,h,h0⟩:=b
 exact ⟨fun c o _ e=>s c o e,b0,b1,s _ _ h,h0⟩
theorem at_any{α:Type}{xs:List α}{i:Int}(h0:0<=i)(h:i<xs.length):∃ v,atI xs i=some v/\xs[i.toNat]? = some v:=by
 obtain ⟨k,rfl⟩:=Int.eq_ofNat_of_zero_le h0
 have hk:k<xs.length:=by lia
 exact ⟨xs[k],y_c (List.getElem?_eq_getElem hk),by rw [Int.toNat_natCast];exact List.getElem?_eq_getElem hk⟩
theorem at_map{ns:List Int}{i:Nat}(h:i<ns.length):∃ v:Int,atI (ns.map V.int) (i:Int)=some (.int v) :=
 ⟨ns[i],y_c (by rw [List.getElem?_map,List.getElem?_eq_getElem h]<;>rfl)⟩
theorem at_mapI{ns:List Int}{i:Int}(h0:0<=i)(h:i<ns.length):∃ v:Int,atI (ns.map V.int) i=some (.int v):=by
 obtain ⟨k,rfl⟩:=Int.eq_ofNat_of_zero_le h0
 exact at_map (by lia)
def sp_L_bag(K:PySem.W.Frag):Sp:=fun vs H Q _=>∃ (a:Addr) (ns:List Int) (i:Int),vs=[.ref a,.int i]/\SqL K H a (ns.map V.int)/\ns.length<=63/\0<=i/\∀ l b0 b1,H l=none->(0:Int)<=b0->Q (.ref l) (upd H l (.lst [.int b0,.int b1]))
def y_v:Sp:=fun vs H Q _=>∃ (l:Addr) (many:Int),vs=[.ref l,.int many]/\Bag H l/\0<many/\many<bigB/\∀ d H',0<=d->d<many->Bg l H H'->Q (.int d) H'
def words:List Str:=["wire", "number", "not", "and", "or", "odd", "sum", "less", "under", "same", "choice", "up", "down", "join", "cut", "table"]
def formK(z:Str):Nat:=if z = "wire" then 2 else if z = "number" then 3 else if z = "up" then 2 else if z = "down" then 2 else if z = "cut" then 3 else if z = "table" then 3 else 1
def formN(z:Str):Nat:=if z = "wire" then 2 else if z = "not" then 2 else if z = "choice" then 4 else if z = "cut" then 4 else if z = "table" then 4 else 3
mutual
def noL:PyData->Bool
 | .list _=>false
 | .tuple ds=>noLs ds
 | _=>true
def noLs:List PyData->Bool
 | []=>true
 | d::ds=>noL d&&noLs ds
end
def KeepT(H H':Hp):Prop:=∀ p xs,H p=some (.tup xs)->H' p=some (.tup xs)
mutual
theorem Dat.keepT{H H':Hp}(k:KeepT H H'):∀ {d:PyData} {v:V},noL d=true->Dat H d v->Dat H' d v
 | .none,_,_,h=>by unfold Dat at *;exact h
 | .bool _,_,_,h=>by unfold Dat at *;exact h
 | .int _,_,_,h=>by unfold Dat at *;exact h
 | .str _,_,_,h=>by unfold Dat at *;exact h
 | .list ds,_,n,h=>by simp [noL] at n
 | .tuple ds,_,n,h=>by
  unfold Dat at *
  obtain ⟨p,xs,h1,h2,h3⟩:=h
  exact ⟨p,xs,h1,k _ _ h2,Dats.keepT k (by simpa [noL] using n) h3⟩
 | .dict _,_,_,h=>by unfold Dat at h;exact h.elim
theorem Dats.keepT{H H':Hp}(k:KeepT H H'):∀ {ds:List PyData} {xs:List V},noLs ds=true->Dats H ds xs->Dats H' ds xs
 | [],_,_,h=>by unfold Dats at *;exact h
 | d::ds,_,n,h=>by
  have n':noL d=true/\noLs ds=true:=by simpa [noLs] using n
  unfold Dats at *
  obtain ⟨x,r,h1,h2,h3⟩:=h
  exact ⟨x,r,h1,Dat.keepT k n'.1 h2,Dats.keepT k n'.2 h3⟩
end
theorem KeepT.same{H H':Hp}(s:Same H H'):KeepT H H':=fun p xs h=>s _ _ h
theorem KeepT.trans{H H1 H2:Hp}(a:KeepT H H1)(b:KeepT H1 H2):KeepT H H2:=fun p xs h=>b _ _ (a _ _ h)
theorem KeepT.lst{H:Hp}{p:Addr}{xs:List V}(h:H p=some (.lst xs))(o:HO):KeepT H (upd H p o):=fun q ys e=>by
 rw [z_j (fun z=>by rw [z,h] at e;cases e)]
 exact e
theorem Bg.keepT{l:Addr}{H H':Hp}(b:Bag H l)(g:Bg l H H'):KeepT H H':=fun p xs h=>g.1 p _ (b.neT h) h
theorem noLs_app:∀ (a b:List PyData),noLs (a++b)=(noLs a&&noLs b)
 | [],b=>by simp [noLs]
 | d::a,b=>by simp [noLs,noLs_app a b,Bool.and_assoc]
theorem z_u{ds:List PyData}(h:∀ d∈ds,noL d=true):noLs ds=true:=by
 induction ds with
 | nil=>simp [noLs]
 | cons d r ih=>simp [noLs,h d List.mem_cons_self,ih fun e he=>h e (List.mem_cons_of_mem _ he)]
theorem noLs_ints(ns:List Int):noLs (ns.map PyData.int)=true:=z_u fun d hd=>by
 obtain ⟨i,_,rfl⟩:=List.mem_map.mp hd
 simp [noL]
theorem pe_comp1{X:Cx}{scope:Scope}{elt iter:Expr}{x:Str}{px:Pos}{c:Expr}{pos:Pos}{wi:TI}{tt:TT}{te:TE}(capt:List Nat)
  (hx0:∀ e s,¬X.xe e s) (hc:X.calm=true) (hi:PI X (.Name x px) iter wi)
  (hT:∀ C s H ex,PT (cxComp X [x] capt scope C s H ex) c tt) (hE:∀ C s H ex,PE (cxComp X [x] capt scope C s H ex) elt te)
  (hk:compOk scope X.env.scope [x] (capt.map fun j=>X.N.getD j "")=true) (hcap:∀ j∈capt,j<X.N.length) (hnd:(x::capt.map fun j=>X.N.getD j "").Nodup)
  (hs:∀ y,foldedSetIterable iter X.env y=pure y:=by intro _;rfl):PE X (.ListComp elt [⟨.Name x px,iter,[c],0⟩] scope pos) (tComp capt wi tt te) :=
 pe_comp capt hx0 hc hi (fun C s H ex=>pts_one (hT C s H ex)) hE hk hcap hnd hs
open PySem PySem.Spec PyProof.Rows
open PySem PySem.Spec
theorem pairedSn{α β:Type}{R:α->β->Prop}{xs us:List α}{ys vs:List β}(p:Paired R xs ys)(q:Paired R us vs):Paired R (xs++us) (ys++vs):=pairedApp q p
theorem pairedGet{α β:Type}{R:α->β->Prop}:∀ {xs:List α} {ys:List β} {i:Nat} {x:α},Paired R xs ys->xs[i]? = some x->∃ y,ys[i]? = some y/\R x y
 | _,_,i,x,.nil,h=>by simp at h
 | _,_,0,x,.cons a b,h=>by
  simp at h
  subst h
  exact ⟨_,rfl,a⟩
 | _,_,i+1,x,.cons a b,h=>by
  rw [List.getElem?_cons_succ] at h ⊢
  exact pairedGet b h
abbrev Pw(H:Hp)(rs:List Addr)(rows:List (List Int)):Prop:=Paired (fun r (x:List Int)=>H r=some (.lst (x.map V.int))) rs rows
theorem z_y{α:Type}{xs:List α}{i:Nat}{x:α}(h:xs[i]? = some x):xs.take (i+1)=xs.take i++[x]:=by
 obtain ⟨hi,he⟩:=List.getElem?_eq_some_iff.mp h
 rw [List.take_succ_eq_append_getElem hi,he]
def Rng(m:Nat)(x:Int):Prop:=0<=x/\x<2^m
theorem cast_pow(r:Nat):((2:Int)^r)=((2^r:Nat):Int):=by rw [Int.natCast_pow];rfl
variable {X:Cx}
theorem pe_bmK{K:PySem.W.Frag}{o e:Expr}{es:List Expr}{to:TE}{t:TA}{name:Str}{apos cpos:Pos}{T id:String}{r:V->List V->Hp->VK->Prop}(hK:X.K=K)(pa:PlainAttrs T)(slot:Slot T name id)(hty:typeOf (.builtin id)=pure (.type "method_descriptor"))(hm:MtR X id r)(ho:PE X o to)(ha:PA X (e::es) t)
  (hbase:attributeBase o name X.env (eval o X.env)=eval o X.env:=by rfl)
  (hfew:((backTo cpos (starEach (e::es) X.env)).all (fun x=>!x.1)&&(backToKw cpos (keywordEach [] X.env)).all (fun x=>x.1.isSome)
   && decide ((e::es).length+([]:List Keyword).length+(if ([]:List Keyword).isEmpty then 0 else 1)<30))=true:=by rfl)
  (hline:(apos.endLine == cpos.line)=true:=by rfl) (hs:starEach (e::es) X.env=(false,eval e X.env)::starEach es X.env:=by rfl) (hplain:(backTo cpos (starEach es X.env)).any (·.1)=false:=by rfl) :
  PE X (.Call (.Attribute o name apos) (e::es) [] cpos) (tBM K T r to t):=by
 subst hK
 exact pe_bm pa slot hty hm ho ha hbase hfew hline hs hplain
end L2
namespace L2
open PySem
end L2
namespace L2
open PySem PySem.Spec PyProof.Rows
section
variable {X:Cx} {pins:List (Addr×Obj)} {σ:St} {H:Hp} {s:Shared} {h':Heap}
theorem Inv.turnedL{t':Nat}{ch:List Addr}(I:Inv X pins σ H s)(k:∀ b o,b∉ch->s.heap.get? b=some o->h'.get? b=some o)(hc:∀ b∈ch,FpOk X pins H b):Inv X pins σ H { s with heap:=h',toks:=t' }:=by
 have nit:∀ b u,H b=some u->b∉ch:=fun b u e z=>by have:=(hc b z).1;rw [this] at e;cases e
 refine I.step (g':=s.gens) (d':=s.drawn) (ch:=ch) (fun b hb=>?_) (fun b o _ _ hn e _=>k b o hn e) (fun b o _ _ hn e _=>⟨o.slots,k b o hn e⟩) (fun _ _ _ _ n=>n)
  (fun b o hn e=>⟨o,k b o hn e⟩) (fun _ _ e=>e) (fun _ _ _ e=>e) (fun _ _ _ e=>e) (fun m hm=>?_) (fun b u e=>?_) I.bare
 ·obtain ⟨_,f1,_,f3,f4,f5⟩:=hc b hb
  exact ⟨f3,f1,f4,f5⟩
 ·obtain ⟨o,es,ep,ho,r⟩:=hm
  exact ⟨o,es,ep,k _ o (fun z=>(hc _ z).2.1 rfl) ho,r⟩
 ·refine (I.hok b u e).stay (fun c v hn q=>k c v ?_ q) (fun _ q=>q) (fun _ _ q=>q) fun _ _ _ q=>q
  rcases hn with z | z
  ·rw [z];exact nit b u e
  ·exact nit c _ z
end
def Itz(K : PySem.W.Frag)(a b : Addr) : It :=
  ⟨fun i H => ∃ xs ys x y, SqL K H a xs /\ SqL K H b ys /\ xs[i]? = some x /\ ys[i]? = some y,
   fun i H v H' => ∃ p x y, v = .ref p /\ H p = none /\ H' = upd H p (.tup [x, y]) /\ (∀ xs, SqL K H a xs -> xs[i]? = some x) /\ ∀ ys, SqL K H b ys -> ys[i]? = some y,
   fun i H => ∃ xs ys, SqL K H a xs /\ SqL K H b ys /\ (xs.length <= i \/ ys.length <= i)⟩
theorem turn_zip{P:Program}{w:World}{K:PySem.W.Frag}{elts:List Expr}{kk:Nat}{pos:Pos}(a b z TI TO i1 i2:Addr)(D:ZipApart z TI TO i1 i2 a b) :
  Turn P w K (.Tuple elts kk pos) (Itz K a b) [z,TI,TO,i1,i2] z (fun i h=>IsZip h z TI TO .none/\IsPair h TI (.ref i1) (.ref i2)/\(∃ c d,IsPair h TO c d)/\h.IsListIter i1 a i/\h.IsListIter i2 b i) where
 mem:=by simp
 obj:=fun i h st c hc=>by
  obtain ⟨h1,h2,⟨x,y,h3⟩,⟨o4,e4,c4,d4⟩,⟨o5,e5,c5,d5⟩⟩:=st
  have hc':c=z\/c=TI\/c=TO\/c=i1\/c=i2:=by simpa using hc
  rcases hc' with rfl | rfl | rfl | rfl | rfl
  ·exact ⟨_,h1,fun v q=>by cases q⟩
  ·exact ⟨_,h2,fun v q=>by cases q⟩
  ·exact ⟨_,h3,fun v q=>by cases q⟩
  ·exact ⟨o4,e4,fun v q=>by rw [d4] at q;cases q⟩
  ·exact ⟨o5,e5,fun v q=>by rw [d5] at q;cases q⟩
 keep:=fun i h h' st k=>by
  obtain ⟨h1,h2,⟨x,y,h3⟩,h4,h5⟩:=st
  exact ⟨k z (by simp) _ h1,k TI (by simp) _ h2,⟨x,y,k TO (by simp) _ h3⟩,h4.at fun o e=>k i1 (by simp) o e,h5.at fun o e=>k i2 (by simp) o e⟩
 item:=by
  intro X hP hw hK hc i pins s σ H E I hf st hg
  subst hP hw hK
  obtain ⟨xs,ys,x,y,hq1,hq2,hx,hy⟩:=hg
  obtain ⟨its1,rv1,p1,hz1⟩:=I.list hq1
  obtain ⟨its2,rv2,p2,hz2⟩:=I.list hq2
  obtain ⟨u1,hu1,ru1⟩:=rv1.get hx
  obtain ⟨u2,hu2,ru2⟩:=rv2.get hy
  obtain ⟨sz,sTI,⟨c,d,sTO⟩,s1,s2⟩:=st
  refine wpAny_pyNext_zip_item D sz sTI sTO s1 s2 p1.isList p2.isList (x:=u1) (y:=u2) (by simpa using hu1) (by simpa using hu2) fun h' b1 b2 b3 b4 b5 b6 hk=>?_
  have lt:∀ {c o},s.heap.get? c=some o->c≠s.heap.objs.size:=fun e=>Nat.ne_of_lt (Heap.lt_size e)
  have I0:Inv X pins σ (upd H s.heap.objs.size (.tup [x,y])) { s with heap:=s.heap.push { cls:=.type "tuple",data:=.seq #[u1,u2] },toks:=s.toks } :=
   I.laid (a:=s.heap.objs.size) (o:=.tup [x,y]) (t':=s.toks) (fun b u e=>Heap.get?_push_of_some _ e) (Nat.le_refl _) ⟨(by show 2<=sizeLine;decide),[u1,u2],.cons ru1 (.cons ru2 .nil),_,Heap.get?_push_size _ rfl,rfl,_,rfl⟩
  have hnone:∀ c∈[z,TI,TO,i1,i2],(upd H s.heap.objs.size (.tup [x,y])) c=none:=fun c hc'=>by
   have hne:c≠s.heap.objs.size:=by
    have hc'':c=z\/c=TI\/c=TO\/c=i1\/c=i2:=by simpa using hc'
    rcases hc'' with rfl | rfl | rfl | rfl | rfl
    ·exact lt sz
    ·exact lt sTI
    ·exact lt sTO
    ·obtain ⟨_,e,_⟩:=s1;exact lt e
    ·obtain ⟨_,e,_⟩:=s2;exact lt e
   rw [z_j hne]
   exact (hf c hc').1
  have hf':∀ c∈[z,TI,TO,i1,i2],FpOk X pins (upd H s.heap.objs.size (.tup [x,y])) c:=fun c hc'=>⟨hnone c hc',(hf c hc').2⟩
  have kk1:∀ c o,c∉[z,TO,i1,i2]->(s.heap.push { cls:=.type "tuple",data:=.seq #[u1,u2] }).get? c=some o->h'.get? c=some o:=fun c o hn e=>by
   rcases Heap.get?_push_cases e with ⟨rfl,rfl⟩ | e'
   ·exact b5
   ·exact hk c o (fun q=>hn (by simp [q])) (fun q=>hn (by simp [q])) (fun q=>hn (by simp [q])) (fun q=>hn (by simp [q])) e'
  have kk2:∀ c∈[z,TO,i1,i2],FpOk X pins (upd H s.heap.objs.size (.tup [x,y])) c:=fun c hc'=>hf' c (by
   have hc'':c=z\/c=TO\/c=i1\/c=i2:=by simpa using hc'
   rcases hc'' with rfl | rfl | rfl | rfl<;>simp)
  have I1:=I0.turnedL (h':=h') (t':=s.toks) (ch:=[z,TO,i1,i2]) kk1 kk2
  refine ⟨_,rfl,wpAny_letOwnedTupleGo_zip b1 fun h2 c1 c2=>?_⟩
  have I2:=I1.turnedL (h':=h2) (t':=s.toks) (ch:=[z]) (fun c o hn e=>(c2.2 c (fun q=>hn (by simp [q]))).trans e) (fun c hc'=>hf' c (by rw [List.mem_singleton.mp hc'];simp))
  refine ⟨.ref s.heap.objs.size,_,I2,rfl,⟨_,x,y,rfl,I.hok.fresh (Nat.le_refl _),rfl,fun xs' q=>by rw [I.list_inj q hq1];exact hx,fun ys' q=>by rw [I.list_inj q hq2];exact hy⟩,?_,hnone⟩
  have mv:∀ c o,c≠z->h'.get? c=some o->h2.get? c=some o:=fun c o hn e=>(c2.2 c hn).trans e
  exact ⟨c1,mv _ _ D.TIz (hk _ _ D.TIz D.TITO D.TIi1 D.TIi2 sTI),⟨_,_,mv _ _ D.TOz b2⟩,b3.at fun o e=>mv _ o D.i1z e,b4.at fun o e=>mv _ o D.i2z e⟩
 done:=by
  intro X hP hw hK hc i pins s σ H E I hf st hg
  subst hP hw hK
  obtain ⟨xs,ys,hq1,hq2,hx⟩:=hg
  obtain ⟨its1,rv1,p1,hz1⟩:=I.list hq1
  obtain ⟨its2,rv2,p2,hz2⟩:=I.list hq2
  have l1:=rv1.length
  have l2:=rv2.length
  obtain ⟨sz,sTI,⟨c,d,sTO⟩,s1,s2⟩:=st
  refine wpAny_pyNext_zip_end (I.ok.hd hc) D sz sTI sTO s1 s2 p1.isList p2.isList ?_ fun h' hk=>⟨rfl,I.turnedL (t':=s.toks) (ch:=[z,TO,i1,i2]) (fun c o hn e=>hk c o (fun q=>hn (by simp [q])) (fun q=>hn (by simp [q])) (fun q=>hn (by simp [q])) (fun q=>hn (by simp [q])) e) (fun c hc'=>hf c ?_)⟩
  ·rcases hx with q | q
   ·exact .inl (by simp;lia)
   ·exact .inr (by simp;lia)
  ·have hc'':c=z\/c=TO\/c=i1\/c=i2:=by simpa using hc'
   rcases hc'' with rfl | rfl | rfl | rfl<;>simp
 self:=fun _ _ _ _ _ st h=>wpAny_pyIter_zip st.1 h
def iZip(K:PySem.W.Frag)(ta:TA):TI:=fun σ H R=>ta σ H fun vs H1=>∃ a b,vs=[.ref a,.ref b]/\(∃ xs,SqL K H1 a xs)/\(∃ ys,SqL K H1 b ys)/\R (Itz K a b) H1
theorem pi_zip{X:Cx}{elts:List Expr}{kk:Nat}{tpos:Pos}{a b:Expr}{ta:TA}{p pos:Pos}(hg:Gl X "zip")(hm:X.mg "zip" = none)(ha:PA X [a,b] ta)(hs:starEach [a,b] X.env=[(false,eval a X.env),(false,eval b X.env)]:=by rfl)(hs2:starEach [b] X.env=[(false,eval b X.env)]:=by rfl) :
  PI X (.Tuple elts kk tpos) (.Call (.Name "zip" p) [a,b] [] pos) (iZip X.K ta):=by
 intro pins s σ H R I h
 refine Call_ (ld_blt I hg hm PyProof.Rows.boot_zip (PyProof.Rows.callWith_type1 (thn (ha pos pins s σ H _ I h) fun us s1 ⟨vs,H1,I1,r1,q1⟩=>?_) (by rw [hs,hs2]) (by rw [hs2];rfl)))
 obtain ⟨l1,l2,e,⟨xs,hq1⟩,⟨ys,hq2⟩,q⟩:=q1
 subst e
 cases r1 with
 | cons r rr =>
  cases rr with
  | cons r' rr =>
   cases rr
   cases r
   cases r'
   obtain ⟨its1,rv1,p1,hz1⟩:=I1.list hq1
   obtain ⟨its2,rv2,p2,hz2⟩:=I1.list hq2
   have hlt1 : @LT.lt Nat _ l1 s1.heap.objs.size:=by obtain ⟨o,e,_⟩:=p1.isList;exact Heap.lt_size e
   have hlt2 : @LT.lt Nat _ l2 s1.heap.objs.size:=by obtain ⟨o,e,_⟩:=p2.isList;exact Heap.lt_size e
   refine call_zip_2 p1.isList p2.isList fun h' hz hTI hTO hi1 hi2 hsz hk=>wpAny_pyIter_zip hz ?_
   have D:ZipApart (s1.heap.objs.size+4) (s1.heap.objs.size+2) (s1.heap.objs.size+3) s1.heap.objs.size (s1.heap.objs.size+1) l1 l2:=PySem.W.ktu_apart _ _ _ hlt1 hlt2
   refine ⟨_,[s1.heap.objs.size+4,s1.heap.objs.size+2,s1.heap.objs.size+3,s1.heap.objs.size,s1.heap.objs.size+1],_,_,H1,rfl,I1.kept (t':=s1.toks) hk,turn_zip l1 l2 _ _ _ _ _ D,⟨hz,hTI,⟨_,_,hTO⟩,hi1,hi2⟩,fun c hc=>?_,q⟩
   have hc':c=s1.heap.objs.size+4\/c=s1.heap.objs.size+2\/c=s1.heap.objs.size+3\/c=s1.heap.objs.size\/c=s1.heap.objs.size+1:=by simpa using hc
   have hle : @LE.le Nat _ s1.heap.objs.size c:=by
    rcases hc' with rfl | rfl | rfl | rfl | rfl
    ·exact Nat.le_add_right _ _
    ·exact Nat.le_add_right _ _
    ·exact Nat.le_add_right _ _
    ·exact Nat.le_refl _
    ·exact Nat.le_add_right _ _
   exact I1.fpOk hle (I1.hok.fresh hle)
theorem for_zip{K:PySem.W.Frag}{a b:Addr}{xs ys:List V}{g:TG}{tb:TS}{D:Ends}{σ:St}{H:Hp}(Pv:Nat->St->Hp->Prop)(h0:Pv 0 σ H)(hl:∀ i σ H,Pv i σ H->SqL K H a xs/\SqL K H b ys)(he:xs.length=ys.length)
  (hs:∀ i x y p σ H,xs[i]? = some x->ys[i]? = some y->Pv i σ H->H p=none->g (.ref p) σ (upd H p (.tup [x,y])) fun σ2 H2=>tb { D with nx:=Pv (i+1),ct:=Pv (i+1),bk:=D.nx } σ2 H2) (hd:∀ σ H,Pv xs.length σ H->D.nx σ H) :
  ∃ W:Nat->Nat->St->Hp->Prop,(∃ m,W 0 m σ H)/\∀ i m σ H,W i m σ H ->
   ((Itz K a b).stop i H/\D.nx σ H)\/((Itz K a b).go i H/\∃ N:St->Hp->Prop,(∀ σ' H',N σ' H'->∃ m',m'<m/\W (i+1) m' σ' H')/\∀ x H',(Itz K a b).yld i H x H'->g x σ H' fun σ2 H2=>tb { D with nx:=N,ct:=N,bk:=D.nx } σ2 H2):=by
 refine ⟨fun i m σ H=>m=xs.length-i/\i<=xs.length/\Pv i σ H,⟨xs.length,by simp,Nat.zero_le _,h0⟩,?_⟩
 rintro i m σ H ⟨rfl,hi,p⟩
 obtain ⟨q1,q2⟩:=hl i σ H p
 by_cases hlt:i<xs.length
 ·have hlt2:i<ys.length:=by lia
  refine .inr ⟨⟨xs,ys,xs[i],ys[i],q1,q2,by simp [hlt],by simp [hlt2]⟩,Pv (i+1),fun σ' H' p'=>⟨xs.length-(i+1),by lia,rfl,hlt,p'⟩,fun v H' y=>?_⟩
  obtain ⟨pp,x,y,rfl,hp,rfl,e1,e2⟩:=y
  exact hs i x y pp σ H (e1 xs q1) (e2 ys q2) p hp
 ·have e:i=xs.length:=by lia
  subst e
  exact .inl ⟨⟨xs,ys,q1,q2,.inl (Nat.le_refl _)⟩,hd σ H p⟩
open PySem PySem.Spec PyProof.Rows
def rCatE:R2:=fun x y H Q=>∃ a b xs ys,x = .ref a/\y = .ref b/\H a=some (.tup xs)/\H b=some (.tup ys)/\xs.length+ys.length<=sizeLine/\∀ p H',Same H H'->H' p=some (.tup (xs++ys))->Q (.ref p) H'
theorem op_catE{X:Cx}:OpR X (binaryOp .Add) rCatE:=by
 intro pins s σ H x y v u Q I rx ry h
 obtain ⟨a,b,xs,ys,rfl,rfl,ha,hb,hz,q⟩:=h
 by_cases he:xs=[]
 ·subst he
  cases rx
  cases ry
  obtain ⟨its,r1,p1,_⟩:=I.tuple (SqT.of ha)
  obtain ⟨its2,r2,p2,_⟩:=I.tuple (SqT.of hb)
  cases r1
  obtain ⟨⟨cls,dd,data,sl⟩,ho,hc,n,hd⟩:=id p1
  obtain ⟨⟨cls2,dd2,data2,sl2⟩,ho2,hc2,n2,hd2⟩:=id p2
  simp only at hc hd hc2 hd2
  subst hc hd hc2 hd2
  exact concat_meets ⟨_,ho,rfl⟩ ⟨_,ho2,rfl⟩ noFill_tuple_add seq_tuple_add PySem.F.slot_tuple_add PySem.F.entry_tuple_add (PySem.F.args_tuple_add_2 _ _)
   (tuple_addW0 a b _ _ n n2 dd dd2 sl sl2 (by simp)) ⟨ho,ho2,⟨.ref b,H,I,rfl,q b H (Same.refl H) hb⟩⟩
 ·exact op_catT pins s σ H _ _ v u Q I rx ry ⟨a,b,xs,ys,rfl,rfl,SqT.of ha,SqT.of hb,he,hz,fun e=>q a H (Same.refl H) (by rw [e,List.append_nil];exact ha),fun _ p hp=>q p _ (z_c hp _) z_b⟩
open PySem
def KW(kvs:List (Key×V))(kv:Str->Option Int):Prop:=(∀ x,valV kvs (.inr x)=(kv x).map V.int)/\∀ x w,kv x=some w->1<=w/\w<=8
end L2
namespace HT
open PySem PyProof.Rows
section
variable {prog:Program} {w:World} {A:Around} {s:Shared} {E:Value->Shared->Prop}
theorem getItem_tuple_whole{t sl:Addr}{items:Array Value}{vl vu:Value}{lo hi:Option Int}{Q:Value->Shared->Prop}(ht:IsTup s.heap t items)(hs:s.heap.IsSliceOf sl vl vu .none)(pl:IsPart vl lo)(pu:IsPart vu hi)
  (hw:sIx items.size 0 lo=0/\sIx items.size items.size hi=items.size) (h:Q (.ref t) s):wpAny (model prog w) A (getItem (.ref t) (.ref sl)) Q E s:=by
 obtain ⟨os,hos,hcs,hds⟩:=id hs
 have hTs:s.TypeIs (.ref sl) "slice" := ⟨os,hos,hcs⟩
 unfold getItem
 try with_reducible refine wpAny_holding ?_
 first | refine wpAny_bind (wpAny_pure ?_) | skip
 refine wpAny_bind (wpAny_sequenceKey ht.typeIs (by decide) ?_)
 refine wpAny_bind (wpAny_callSpecial?_slot (name:=Str.ofString "__getitem__") ht.typeIs PyProof.Rows.slot_tuple_getitem
  (wpAny_call_entry PyProof.Rows.slot_tuple_getitem ht.typeIs entry_tuple_getitem ?_ (args_tuple_getitem _ _)))
 show wpAny _ _ (Builtin.Tuple.tupleItemsOf (.ref t) >>= _) _ _ s
 refine wpAny_bind (tupleItemsOf_ ht ?_)
 refine wpAny_bind (wpAny_typeOf hTs ?_)
 rw [if_pos (by decide)]
 refine wpAny_bind (sliceApplied_gen hs pl pu ?_)
 have hyes:((((sIx items.size 0 lo:Nat):Int) == 0&&(1:Int) == 1&&(sIx items.size items.size hi-sIx items.size 0 lo) == items.size)=true):=by
  rw [hw.1,hw.2]
  simp
 show wpAny _ _ (if (((sIx items.size 0 lo:Nat):Int) == 0&&(1:Int) == 1&&(sIx items.size items.size hi-sIx items.size 0 lo) == items.size)=true then _ else _) _ _ s
 rw [if_pos hyes]
 refine wpAny_bind (m:=Builtin.Tuple.tupleIsExact _) (wpAny_bind (wpAny_typeOf ht.typeIs (wpAny_pure ?_)))
 rw [if_pos (by decide)]
 exact wpAny_bind (wpAny_rule (wpAny_pure ⟨_,rfl,wpAny_pure h⟩))
end
end HT
namespace L2
open PySem PySem.Spec PyProof.Rows
def rSlE:V->Option Int->Option Int->Hp->VK->Prop:=fun x lo hi H Q=>∃ a xs,x = .ref a/\H a=some (.tup xs)/\∀ p H',Same H H'->H' p=some (.tup (cutV xs lo hi))->Q (.ref p) H'
theorem sl_tupE{X:Cx}:SlR X rSlE:=by
 intro pins s σ H x v vl vu lo hi sl Q I rx hs pl pu h
 obtain ⟨a,xs,rfl,hx,q⟩:=h
 by_cases hw:HT.sIx xs.length 0 lo=0/\HT.sIx xs.length xs.length hi=xs.length
 ·cases rx
  obtain ⟨its,r,ht,hz⟩:=I.tuple (SqT.of hx)
  have hlen:its.toArray.size=xs.length:=by rw [List.size_toArray];exact r.length.symm
  refine ⟨"tuple",_,PyProof.Rows.slot_tuple_getitem.lookup,ht.typeIs,?_⟩
  refine HT.getItem_tuple_whole ht hs pl pu (by rw [hlen];exact hw) ?_
  refine ⟨.ref a,H,I,rfl,q a H (Same.refl H) ?_⟩
  have:cutV xs lo hi=xs:=by
   unfold cutV
   rw [hw.1,hw.2]
   simp
  rw [this]
  exact hx
 ·exact sl_tup pins s σ H _ v vl vu lo hi sl Q I rx hs pl pu ⟨a,xs,rfl,SqT.of hx,hw,fun p hp=>q p _ (z_c hp _) z_b⟩
open PySem
section
variable {prog:Program} {w:World} {K:Type} [DecidableEq K] {knd:KeyKind prog w K}
def Ext(h h':Heap):Prop:=∀ b o,h.get? b=some o->h'.get? b=some o
variable {A:Around} {E:Value->Shared->Prop} {s:Shared}
theorem takeD_snoc{α:Type}{ks:List α}{i:Nat}(d:α)(h:i<ks.length):ks.take (i+1)=ks.take i++[ks.getD i d]:=by
 rw [List.take_add_one,List.getElem?_eq_getElem h,List.getD_eq_getElem?_getD,List.getElem?_eq_getElem h]
 rfl
theorem takeD_fresh{α:Type}{ks:List α}{i:Nat}(d:α)(h:i<ks.length)(nd:ks.Nodup):ks.getD i d∉ks.take i:=fun hm=>by
 have h1:=nd.sublist (List.take_sublist (i+1) ks)
 rw [takeD_snoc d h] at h1
 exact (List.nodup_append.mp h1).2.2 _ hm _ (List.mem_singleton.mpr rfl) rfl
def mtSet(led:Bool):Obj:={ cls:=.type "set",dict:=none,data:=.set #[] 0 (.fresh 0 0 led) }
def withSet(s:Shared)(led:Bool):Shared:={ s with heap:=s.heap.push (mtSet led) }
theorem withSet_at(s:Shared)(led:Bool):(withSet s led).heap.get? s.heap.objs.size=some (mtSet led):=Heap.get?_push_size _ rfl
theorem withSet_old{s:Shared}{led:Bool}{b:Addr}{o:Obj}(e:s.heap.get? b=some o):(withSet s led).heap.get? b=some o:=Heap.get?_push_of_some _ e
theorem withSet_size(s:Shared)(led:Bool):(withSet s led).heap.objs.size=s.heap.objs.size+1:=Heap.size_push _ _
theorem none_past{h:Heap}{a:Addr}(q:h.objs.size<=a):h.get? a=none:=by
 cases e:h.get? a with
 | none=>rfl
 | some o=>exact absurd (Heap.lt_size e) (Nat.not_lt.mpr q)
end
end L2
namespace L2
open PySem PySem.Spec PyProof.Rows
theorem vals_ref:∀ {rs:List Addr} {its:List Value},Vals (rs.map V.ref) its->∀ (i:Nat) (v:Value),its[i]? = some v->∃ r,rs[i]? = some r/\v = .ref r
 | [],_,h,i,v,hv=>by cases h;simp at hv
 | r::rs,_,h,i,v,hv=>by
  rw [List.map_cons] at h
  cases h with
  | cons h1 h2 =>
   cases (show _=Value.ref r from h1)
   match i,hv with
   | 0,hv=>exact ⟨r,rfl,by simpa using hv.symm⟩
   | i+1,hv=>exact vals_ref h2 i v hv
end L2
namespace L2
end L2
namespace L2
end L2
namespace L2
open PySem PySem.Spec PyProof.Rows
section
variable {X:Cx} {pins:List (Addr×Obj)} {σ:St} {H:Hp} {s:Shared}
theorem Inv.frz(I:Inv X pins σ H s){a:Addr}{kvs:List (Key×V)}(e:H a=some (.dK kvs)):∃ o,Inv X pins σ (upd H a (.frz o (.dK kvs))) s:=by
 obtain ⟨z,y,vs,r,d⟩:=dk_of I.hok e
 obtain ⟨o,es,ep,ho,c⟩:=id d
 have mu:Mut (H a):=by rw [e];trivial
 have new:ObjOk X.prog X.w (upd H a (.frz o (.dK kvs))) s.heap a (.frz o (.dK kvs)):=⟨ho,z,y,vs,r,d⟩
 exact ⟨o,I.un (t':=s.toks) (Un.write mu (.inl rfl) (fun b u _ q=>q) ⟨o,ho⟩) (HOk.write I.hok mu (.inl rfl) (fun b u _ q=>q) ⟨o,ho⟩ new)⟩
def sFrz(t:TS):TS:=fun D σ H=>∃ a kvs,H a=some (.dK kvs)/\∀ o,t D σ (upd H a (.frz o (.dK kvs)))
theorem ps_frz{st:Stmt}{t:TS}(h:PS X st t):PS X st (sFrz t):=by
 intro pins s σ H D I q
 obtain ⟨a,kvs,e,q⟩:=q
 obtain ⟨o,I'⟩:=I.frz e
 exact h pins s σ _ D I' (q o)
end
theorem dgetR{H:Hp}{a:Addr}{kvs:List (Key×V)}{x:Str}{v:V}(h:Rd H a (.dK kvs))(e:valV kvs (.inr x)=some v):DGet H a (.str x) (some v) :=
 .inl ⟨kvs,.inr x,h,rfl,e.symm⟩
theorem kV_of_is{k:Key}{v:Value}(h:keyIs k v=true):RelV (kV k) v:=by
 rcases y_q h with ⟨i,t,rfl,rfl⟩ | ⟨x,t,rfl,rfl⟩
 ·exact ⟨t,rfl⟩
 ·exact ⟨t,rfl⟩
def Itd(a:Addr)(o:Obj)(kvs:List (Key×V)):It :=
 ⟨fun i H=>H a=some (.frz o (.dK kvs))/\i<kvs.length,fun i H x H'=>H'=H/\∃ kv,kvs[i]? = some kv/\x=kV kv.1,fun i H=>H a=some (.frz o (.dK kvs))/\kvs.length<=i⟩
theorem turn_dict{P:Program}{w:World}{K:PySem.W.Frag}{tg:Expr}(a it:Addr){o:Obj}{kvs:List (Key×V)}{es:Array DictEntry}{ep:Nat}(hd:o.data = .dict es ep) :
  Turn P w K tg (Itd a o kvs) [it] it (fun i h=>h.IsKeyIter it a i kvs.length ep) where
 mem:=by simp
 obj:=fun i h st b hb=>by
  obtain ⟨ob,ho,hc,hd'⟩:=st
  have e:b=it:=by simpa using hb
  subst e
  exact ⟨ob,ho,fun v q=>by rw [hd'] at q;cases q⟩
 keep:=fun i h h' st k=>by
  obtain ⟨ob,ho,r⟩:=st
  exact ⟨ob,k it (by simp) _ ho,r⟩
 item:=by
  intro X hP hw hK hc i pins s σ H E I hf st hg
  subst hP hw hK
  obtain ⟨f0,f1,f2,f3,f4,f5⟩:=hf it (by simp)
  obtain ⟨hH,hi⟩:=hg
  obtain ⟨ho,z,y,vs,r,o',es',ep',ho',hx,hd',hk,hp,hn⟩:=(show ObjOk X.prog X.w H s.heap a (.frz o (.dK kvs)) from I.hok a _ hH)
  rw [ho] at ho'
  cases ho'
  rw [hd] at hd'
  cases hd'
  have hlen:=r.length
  have DA:s.heap.DictAt (mixKind X.prog X.w) a vs ep:=⟨o,es,ho,hx,hd,hk,hp,hn⟩
  rw [hlen] at st hi
  have hvi:vs[i]? = some (vs[i].1,vs[i].2):=by rw [List.getElem?_eq_getElem hi]
  have hkey:∃ kv,kvs[i]? = some kv/\kv.1=vs[i].1:=by
   have hk2:=r.keys
   have h1:(kvs.map (·.1))[i]? = (vs.map (·.1))[i]? := by rw [hk2]
   rw [List.getElem?_map,List.getElem?_map,List.getElem?_eq_getElem hi,List.getElem?_eq_getElem (by lia)] at h1
   exact ⟨kvs[i],List.getElem?_eq_getElem (by lia),Option.some.inj h1⟩
  obtain ⟨kv,hkv,hk1⟩:=hkey
  refine wpAny_pyNext_dict_item st DA hvi fun key h' his st' sb=>?_
  have I1:Inv X pins σ H { s with heap:=h',toks:=s.toks }:=I.turned (fun b ob hb e=>(sb.2 b hb).trans e) f0 f1 f3 f4 f5
  obtain ⟨ob,hob,hcl,hdt⟩:=id st'
  rw [<-hlen] at st'
  exact ⟨_,rfl,go_of (s:={ s with heap:=h',toks:=s.toks }) (n := "dict_keyiterator") hob hcl hdt (by decide) ⟨kV kv.1,H,I1,by rw [hk1];exact kV_of_is his,⟨rfl,kv,hkv,rfl⟩,st',fun b hb=>(hf b hb).1⟩⟩
 done:=by
  intro X hP hw hK hc i pins s σ H E I hf st hg
  subst hP hw hK
  obtain ⟨f0,f1,f2,f3,f4,f5⟩:=hf it (by simp)
  obtain ⟨hH,hi⟩:=hg
  obtain ⟨ho,z,y,vs,r,o',es',ep',ho',hx,hd',hk,hp,hn⟩:=(show ObjOk X.prog X.w H s.heap a (.frz o (.dK kvs)) from I.hok a _ hH)
  rw [ho] at ho'
  cases ho'
  rw [hd] at hd'
  cases hd'
  have hlen:=r.length
  have DA:s.heap.DictAt (mixKind X.prog X.w) a vs ep:=⟨o,es,ho,hx,hd,hk,hp,hn⟩
  rw [hlen] at st hi
  exact wpAny_pyNext_dict_end (I.ok.hd hc) st DA (List.getElem?_eq_none hi) fun h' eb=>⟨rfl,I.turned (t':=s.toks) (fun b o hb e=>eb b o hb e) f0 f1 f3 f4 f5⟩
 self:=fun _ _ _ _ _ st h=>wpAny_pyIter_keyiter st h
def iDict(tl:TE):TI:=fun σ H R=>tl σ H fun x H1=>∃ a o kvs,x = .ref a/\H1 a=some (.frz o (.dK kvs))/\R (Itd a o kvs) H1
theorem pi_dict{X:Cx}{tg:Expr}{l:Expr}{tl:TE}(hl:PE X l tl):PI X tg l (iDict tl):=by
 intro pins s σ H R I h
 refine thn (hl pins s σ H _ I h) fun v s1 ⟨x,H1,I1,r1,q1⟩=>?_
 obtain ⟨a,o,kvs,e,hH,q⟩:=q1
 subst e
 cases r1
 obtain ⟨ho,z,y,vs,r,o',es,ep,ho',hx,hd,hk,hp,hn⟩:=(show ObjOk X.prog X.w H1 s1.heap a (.frz o (.dK kvs)) from I1.hok a _ hH)
 rw [ho] at ho'
 cases ho'
 have hlen:=r.length
 refine wpAny_pyIter_dict (knd:=mixKind X.prog X.w) y ⟨o,es,ho,hx,hd,hk,hp,hn⟩ ?_
 refine ⟨s1.heap.objs.size,[s1.heap.objs.size],_,_,H1,rfl,I1.kept (t':=s1.toks) fun b o e=>Heap.get?_push_of_some _ e,turn_dict a _ (kvs:=kvs) hd,⟨_,Heap.get?_push_size _ rfl,rfl,by rw [hlen];rfl⟩,fun b hb=>?_,q⟩
 have e:b=s1.heap.objs.size:=by simpa using hb
 subst e
 exact I1.fpOk (Nat.le_refl _) (I1.hok.fresh (Nat.le_refl _))
theorem comp_dict{S:V->St}{tt:TT}{te:TE}{H:Hp}{Fin:List V->Hp->Prop}{a:Addr}{o:Obj}{kvs:List (Key×V)}(Pv:Nat->List V->Hp->Prop)(h0:Pv 0 [] H)(hl:∀ i ys H,i<=kvs.length->Pv i ys H->H a=some (.frz o (.dK kvs)))(hz:∀ i ys H,i<kvs.length->Pv i ys H->ys.length<sizeLine)
  (hs:∀ i kv ys H,kvs[i]? = some kv->Pv i ys H->tt (S (kV kv.1)) H fun b H2=>if b=true then te (S (kV kv.1)) H2 fun y H3=>Pv (i+1) (ys++[y]) H3 else Pv (i+1) ys H2)
  (hd:∀ ys H,Pv kvs.length ys H->Fin ys H):CompW (Itd a o kvs) S tt te H Fin:=by
 refine ⟨fun i m ys H=>m=kvs.length-i/\i<=kvs.length/\Pv i ys H,⟨kvs.length,by simp,Nat.zero_le _,h0⟩,?_⟩
 rintro i m ys H ⟨rfl,hi,p⟩
 have q:=hl i ys H hi p
 by_cases hlt:i<kvs.length
 ·refine .inr ⟨⟨q,hlt⟩,hz i ys H hlt p,Pv (i+1),fun ys' H' p'=>⟨kvs.length-(i+1),by lia,rfl,hlt,p'⟩,fun x H' y=>?_⟩
  obtain ⟨e,kv,hkv,rfl⟩:=y
  subst e
  exact hs i kv ys _ hkv p
 ·have e:i=kvs.length:=by lia
  subst e
  exact .inl ⟨⟨q,Nat.le_refl _⟩,hd ys H p⟩
section
variable {X:Cx}
theorem nums_of{vs:List Value}{ns:List Int}(h:IntsAre vs ns):numsOf vs=ns:=by
 induction h with
 | nil=>rfl
 | cons n t r ih=>show n::numsOf _=_;rw [ih]
theorem call_sum:CallR X (.builtin "sum") (fun xs H Q=>X.calm=true/\∃ (p:Addr) (ns:List Int),xs=[.ref p]/\SqL X.K H p (ns.map V.int)/\Q (.int ns.sum) H):=by
 intro pins s σ H xs us Q I r h
 obtain ⟨hc,p,ns,rfl,hp,q⟩:=h
 obtain ⟨u,rfl,ru⟩:=vals1 r
 cases ru
 obtain ⟨its,rv,pl,hz⟩:=I.list hp
 have hi:=intsAre_of rv
 obtain ⟨ys,hys⟩:=hi.allInts.items
 have hl:=pl.isList
 rw [hys] at hl
 refine sum_intListG (I.ok.hd hc) hl fun h' tk t' hk=>⟨.int ns.sum,H,I.kept hk,⟨t',?_⟩,q⟩
 rw [preSum_eq,List.take_of_length_le (by simp)]
 have e1:=nums_of hi
 have e2:=nums_intItems ys
 rw [<-hys] at e2
 have e3:numsOf its=numsOf its.toArray.toList:=rfl
 rw [e3,e2] at e1
 rw [e1]
end
end L2
namespace L2
open PySem PySem.Spec PyProof.Rows PySem.SeqAt MeetsSeq MeetsSeq2 MeetsSeq3
open AutoSeq1 (wpAny_loadPart')
end L2
namespace L2
open PySem PySem.Spec PyProof.Rows PySem.SeqAt MeetsSeq MeetsSeq2 MeetsSeq3
open AutoSeq1 (wpAny_loadPart')
end L2
namespace L2
open PySem PySem.Spec PyProof.Rows
end L2
namespace L2
theorem snoc_ind{α:Type}{P:List α->Prop}(h0:P [])(hs:∀ l a,P l->P (l++[a])):∀ l,P l:=by
 intro l
 have:∀ r:List α,P r.reverse:=by
  intro r
  induction r with
  | nil=>exact h0
  | cons a r ih=>rw [List.reverse_cons];exact hs _ _ ih
 have h:=this l.reverse
 rwa [List.reverse_reverse] at h
open PySem
theorem pi_or{X:Cx}{tg it:Expr}{w1 w2:TI}(h1:PI X tg it w1)(h2:PI X tg it w2):PI X tg it (fun σ H R=>w1 σ H R\/w2 σ H R):=by
 intro pins s σ H R I h
 rcases h with h | h
 ·exact h1 pins s σ H R I h
 ·exact h2 pins s σ H R I h
open PySem PySem.Spec PyProof.Rows
abbrev KN:PySem.W.Frag:=[]
theorem SqL.up{K:PySem.W.Frag}{H:Hp}{a:Addr}{xs:List V}(h:SqL KN H a xs):SqL K H a xs:=by
 rcases h with h | ⟨o,_,_,e,_⟩
 ·exact .inl h
 ·exact nomatch (show (none:Option Obj)=some o from e)
theorem SqT.up{K:PySem.W.Frag}{H:Hp}{a:Addr}{xs:List V}(h:SqT KN H a xs):SqT K H a xs:=by
 rcases h with h | ⟨o,_,_,e,_⟩
 ·exact .inl h
 ·exact nomatch (show (none:Option Obj)=some o from e)
section
variable {X:Cx}
theorem z_x:IxR X (rIxL KN):=fun va sl pins s σ H x y v u Q I rx ry ⟨p,xs,i,z,e1,e2,hq,r⟩ hs=>y_p va sl pins s σ H x y v u Q I rx ry ⟨p,xs,i,z,e1,e2,hq.up,r⟩ hs
theorem z_n:IxR X (rIxT KN):=fun va sl pins s σ H x y v u Q I rx ry ⟨p,xs,i,z,e1,e2,hq,r⟩ hs=>ix_tup va sl pins s σ H x y v u Q I rx ry ⟨p,xs,i,z,e1,e2,hq.up,r⟩ hs
theorem sl_list0:SlR X (rSlL KN):=fun pins s σ H x v vl vu lo hi sl Q I rx hs pl pu ⟨a,xs,e,hq,r⟩=>sl_list pins s σ H x v vl vu lo hi sl Q I rx hs pl pu ⟨a,xs,e,hq.up,r⟩
theorem LenV.up{K:PySem.W.Frag}{x:V}{H:Hp}{n:Nat}(h:LenV KN x H n):LenV K x H n:=by
 cases x with
 | ref p =>
  rcases (show (∃ xs,SqL KN H p xs/\n=xs.length)\/∃ xs,SqT KN H p xs/\n=xs.length from h) with ⟨xs,a,b⟩ | ⟨xs,a,b⟩
  ·exact .inl ⟨xs,a.up,b⟩
  ·exact .inr ⟨xs,a.up,b⟩
 | _=>exact h
theorem TruV.up{K:PySem.W.Frag}{x:V}{H:Hp}{k:Bool}(h:TruV KN x H k):TruV K x H k:=by
 cases x with
 | ref p =>
  rcases (show (∃ xs,SqL KN H p xs/\k = !xs.isEmpty)\/(∃ xs,SqT KN H p xs/\k = !xs.isEmpty)\/∃ kvs,H p=some (.dK kvs)/\k = !kvs.isEmpty from h) with ⟨xs,a,b⟩ | ⟨xs,a,b⟩ | c
  ·exact .inl ⟨xs,a.up,b⟩
  ·exact .inr (.inl ⟨xs,a.up,b⟩)
  ·exact .inr (.inr c)
 | _=>exact h
theorem y_f:CallR X (.builtin "len") (fun xs H Q=>∃ x n,xs=[x]/\LenV KN x H n/\Q (.int n) H):=fun pins s σ H xs us Q I r ⟨x,n,e,l,q⟩=>call_len pins s σ H xs us Q I r ⟨x,n,e,l.up,q⟩
theorem call_list_of0:CallR X (.type "list") (fun xs H Q=>∃ p ys,xs=[.ref p]/\(SqL KN H p ys\/SqT KN H p ys)/\∀ l,H l=none->Q (.ref l) (upd H l (.lst ys))):=fun pins s σ H xs us Q I r ⟨p,ys,e,l,q⟩ =>
 call_list_of pins s σ H xs us Q I r ⟨p,ys,e,l.imp (·.up) (·.up),q⟩
theorem y_w:CallR X (.type "tuple") (fun xs H Q=>∃ p ys,xs=[.ref p]/\((SqL KN H p ys/\∀ l,H l=none->Q (.ref l) (upd H l (.tup ys)))\/(SqT KN H p ys/\Q (.ref p) H))):=fun pins s σ H xs us Q I r ⟨p,ys,e,l⟩ =>
 call_tuple_of pins s σ H xs us Q I r ⟨p,ys,e,l.imp (fun z=>⟨z.1.up,z.2⟩) fun z=>⟨z.1.up,z.2⟩⟩
theorem call_all0:CallR X (.builtin "all") (fun xs H Q=>X.calm=true/\∃ (p:Addr) (bs:List Bool),xs=[.ref p]/\SqL KN H p (bs.map V.bl)/\Q (.bl (bs.all id)) H):=fun pins s σ H xs us Q I r ⟨c,p,bs,e,l,q⟩ =>
 call_all pins s σ H xs us Q I r ⟨c,p,bs,e,l.up,q⟩
theorem op_in_seq0:OpR X (compareOp .In) (rIn KN false):=fun pins s σ H x y v u Q I rx ry ⟨p,xs,e,l,q⟩=>op_in_seq pins s σ H x y v u Q I rx ry ⟨p,xs,e,l.imp (·.up) (·.up),q⟩
theorem Turn.up{P:Program}{w:World}{K:PySem.W.Frag}{tg:Expr}{J J':It}{fp:List Addr}{it:Addr}{tn:Nat->Heap->Prop}(t:Turn P w K tg J fp it tn)(g:∀ i H,J'.go i H->J.go i H)(d:∀ i H,J'.stop i H->J.stop i H)
  (y:∀ i H x H',J.yld i H x H'->J'.yld i H x H'):Turn P w K tg J' fp it tn where
 mem:=t.mem
 obj:=t.obj
 keep:=t.keep
 item:=fun X a b c e i pins s σ H E I f n q=>thn (t.item X a b c e i pins s σ H E I f n (g _ _ q)) fun r s1 ⟨u,h1,h2⟩=>⟨u,h1,thn h2 fun _ s2 ⟨x,H',I',r',y',z⟩=>⟨x,H',I',r',y _ _ _ _ y',z⟩⟩
 done:=fun X a b c e i pins s σ H E I f n q=>t.done X a b c e i pins s σ H E I f n (d _ _ q)
 self:=t.self
def cl(t:TE):TE:=fun σ H Q=>∃ R,t σ H R/\∀ x H',R x H'->Q x H'
def cla(t:TA):TA:=fun σ H Q=>∃ R,t σ H R/\∀ x H',R x H'->Q x H'
theorem PE.cl{e:Expr}{t:TE}(h:PE X e t):PE X e (cl t):=fun pins s σ H Q I ⟨R,q,m⟩=>thn (h pins s σ H R I q) fun v s' ⟨x,H',I',r,z⟩=>⟨x,H',I',r,m _ _ z⟩
theorem PA.cl{es:List Expr}{t:TA}(h:PA X es t):PA X es (cla t):=fun pos pins s σ H Q I ⟨R,q,m⟩=>thn (h pos pins s σ H R I q) fun v s' ⟨x,H',I',r,z⟩=>⟨x,H',I',r,m _ _ z⟩
theorem PE.wk0{e:Expr}{t t':TE}(h:PE X e t)(m:∀ σ H Q,t' σ H Q->t σ H Q):PE X e t':=fun pins s σ H Q I q=>h pins s σ H Q I (m _ _ _ q)
theorem PI.weak{tg l:Expr}{wi wi':TI}(h:PI X tg l wi)
  (m:∀ σ H R,wi' σ H R->wi σ H fun J0 H1=>∃ J1,((∀ i H,J1.go i H->J0.go i H)/\(∀ i H,J1.stop i H->J0.stop i H)/\∀ i H x H',J0.yld i H x H'->J1.yld i H x H')/\R J1 H1):PI X tg l wi':=fun pins s σ H R I q =>
 thn (h pins s σ H _ I (m _ _ _ q)) fun v s1 z=>thn z fun itv s2 z=>by
  obtain ⟨it,fp,tn,J,H',e,I',t,n,f,J1,⟨g,d,y⟩,r⟩:=z
  exact ⟨it,fp,tn,J1,H',e,I',t.up g d y,n,f,r⟩
theorem pi_list0{tg l:Expr}{tl:TE}(hl:PE X l tl):PI X tg l (iList KN tl):=(pi_list hl.cl).weak fun σ H R q=>⟨_,q,fun x H1 ⟨a,e,⟨xs,z⟩,r⟩=>⟨a,e,⟨xs,z.up⟩,Itl KN a,
 ⟨fun i H ⟨xs,x,u,v⟩=>⟨xs,x,u.up,v⟩,fun i H ⟨xs,u,v⟩=>⟨xs,u.up,v⟩,fun i H x H' ⟨u,v⟩=>⟨u,fun xs z=>v xs z.up⟩⟩,r⟩⟩
theorem pi_tup0{tg l:Expr}{tl:TE}(hl:PE X l tl):PI X tg l (iTup KN tl):=(pi_tup hl.cl).weak fun σ H R q=>⟨_,q,fun x H1 ⟨a,e,⟨xs,z⟩,r⟩=>⟨a,e,⟨xs,z.up⟩,Itt KN a,
 ⟨fun i H ⟨xs,x,u,v⟩=>⟨xs,x,u.up,v⟩,fun i H ⟨xs,u,v⟩=>⟨xs,u.up,v⟩,fun i H x H' ⟨u,v⟩=>⟨u,fun xs z=>v xs z.up⟩⟩,r⟩⟩
theorem pi_zip0{elts:List Expr}{kk:Nat}{tpos:Pos}{a b:Expr}{ta:TA}{p pos:Pos}(hg:Gl X "zip")(hm:X.mg "zip" = none)(ha:PA X [a,b] ta)(hs:starEach [a,b] X.env=[(false,eval a X.env),(false,eval b X.env)]:=by rfl)(hs2:starEach [b] X.env=[(false,eval b X.env)]:=by rfl) :
  PI X (.Tuple elts kk tpos) (.Call (.Name "zip" p) [a,b] [] pos) (iZip KN ta):=(pi_zip hg hm ha.cl hs hs2).weak fun σ H R q=>⟨_,q,fun x H1 ⟨a,b,e,⟨xs,z⟩,⟨ys,z'⟩,r⟩=>⟨a,b,e,⟨xs,z.up⟩,⟨ys,z'.up⟩,Itz KN a b,
 ⟨fun i H ⟨xs,ys,x,y,u,u',v⟩=>⟨xs,ys,x,y,u.up,u'.up,v⟩,fun i H ⟨xs,ys,u,u',v⟩=>⟨xs,ys,u.up,u'.up,v⟩,fun i H x H' ⟨p,x',y',u,v,w,f,g⟩=>⟨p,x',y',u,v,w,fun xs z=>f xs z.up,fun ys z=>g ys z.up⟩⟩,r⟩⟩
theorem pt_truth0{a:Expr}{ta:TE}(ha:PE X a ta)(he:∀ whole,isTrue a X.env whole=(do let v <-whole;standAt a.pos;holding [v] (truthy v))) :
  PT X a (fun σ H Q=>ta σ H fun x H'=>∃ k,TruV KN x H' k/\Q k H'):=fun pins s σ H Q I q=>pt_truth ha.cl he pins s σ H Q I ⟨_,q,fun x H' ⟨k,t,z⟩=>⟨k,t.up,z⟩⟩
theorem tyV.up{K:PySem.W.Frag}{T:String}{x:V}{H:Hp}(h:tyV KN T x H):tyV K T x H:=by
 cases x with
 | ref p =>
  rcases (show (T = "list" /\ ∃ xs,SqL KN H p xs)\/(T = "tuple" /\ ∃ o,KN.lookup p=some o/\o.cls = .type "tuple" /\ o.dict=none)\/(T = "dict" /\ ((∃ kvs,H p=some (.dK kvs))\/∃ kvs,H p=some (.dT kvs)))\/(T = "set" /\ ∃ S n,H p=some (.set S n)) from h) with ⟨a,xs,b⟩ | ⟨_,o,e,_⟩ | c
  ·exact .inl ⟨a,xs,b.up⟩
  ·exact nomatch (show (none:Option Obj)=some o from e)
  ·exact .inr (.inr c)
 | _=>exact h
variable {o e:Expr} {es:List Expr} {to:TE} {t:TA} {name:Str} {apos cpos:Pos} {T id:String} {r:V->List V->Hp->VK->Prop}
theorem pe_bmN(pa:PlainAttrs T)(slot:Slot T name id)(hty:typeOf (.builtin id)=pure (.type "method_descriptor"))(hm:MtR X id r)(ho:PE X o to)(ha:PA X (e::es) t)
  (hbase:attributeBase o name X.env (eval o X.env)=eval o X.env:=by rfl)
  (hfew:((backTo cpos (starEach (e::es) X.env)).all (fun x=>!x.1)&&(backToKw cpos (keywordEach [] X.env)).all (fun x=>x.1.isSome)
   && decide ((e::es).length+([]:List Keyword).length+(if ([]:List Keyword).isEmpty then 0 else 1)<30))=true:=by rfl)
  (hline:(apos.endLine == cpos.line)=true:=by rfl) (hs:starEach (e::es) X.env=(false,eval e X.env)::starEach es X.env:=by rfl) (hplain:(backTo cpos (starEach es X.env)).any (·.1)=false:=by rfl) :
  PE X (.Call (.Attribute o name apos) (e::es) [] cpos) (tBM KN T r to t):=(pe_bm pa slot hty hm ho.cl ha hbase hfew hline hs hplain).wk0 fun σ H Q q=>⟨_,q,fun x H1 z=>⟨z.1.up,z.2⟩⟩
theorem pg_tup0{pos:Pos}{es:List Expr}{k:Nat}{t:TGs}{n:Nat}(hc:X.calm=true)(h:PGs X es t)
  (hn:(assignEach es X.env).length=n:=by rfl) (hst:(assignEach es X.env).findIdx? (·.1)=none:=by rfl):PG X (.Tuple es k pos) (gTup KN n t):=fun pins s σ H v u Q I r ⟨a,xs,e,hq,z⟩=>pg_tup hc h hn hst pins s σ H v u Q I r ⟨a,xs,e,hq.up,z⟩
end
theorem x_d{P:List Value->Prop}{n:Nat}(h:∀ a us,us.length=n->P (a::us)):∀ us:List Value,us.length=n+1->P us
 | [],e=>nomatch e
 | a::us,e=>h a us (Nat.succ.inj e)
theorem l_nil{P:List Value->Prop}(h:P []):∀ us:List Value,us.length=0->P us
 | [],_=>h
 | _::_,e=>nomatch e
end L2
namespace L2
open PySem PySem.Spec PyProof.Rows
end L2
namespace L2
open PySem PySem.Spec PyProof.Rows
theorem cut_same{c:Nat}:∀ {p q r t:List Nat},c∉p->c∉q->p++c::r=q++c::t->p=q/\r=t
 | [],[],_,_,_,_,h=>by simpa using h
 | [],b::q,_,_,_,hq,h=>by
  simp only [List.nil_append,List.cons_append,List.cons.injEq] at h
  exact absurd (by rw [h.1];exact List.mem_cons_self) hq
 | a::p,[],_,_,hp,_,h=>by
  simp only [List.nil_append,List.cons_append,List.cons.injEq] at h
  exact absurd (by rw [<-h.1];exact List.mem_cons_self) hp
 | a::p,b::q,r,t,hp,hq,h=>by
  simp only [List.cons_append,List.cons.injEq] at h
  obtain ⟨e1,e2⟩:=cut_same (fun z=>hp (List.mem_cons_of_mem _ z)) (fun z=>hq (List.mem_cons_of_mem _ z)) h.2
  exact ⟨by rw [h.1,e1],e2⟩
end L2
namespace L2
open PySem
end L2
namespace L2
end L2
namespace L2
open PySem
open PySem PySem.Spec PyProof.Rows
theorem comp_zip{K:PySem.W.Frag}{n:Nat}{c:St}{g:TG}{tt:TT}{te:TE}{H:Hp}{Fin:List V->Hp->Prop}{a b:Addr}{xs us:List V}(Pv:Nat->List V->Hp->Prop)(h0:Pv 0 [] H)(hl:∀ i ys H,i<=xs.length->Pv i ys H->SqL K H a xs/\SqL K H b us)(he:xs.length=us.length)(hz:∀ i ys H,i<xs.length->Pv i ys H->ys.length<sizeLine)
  (hs:∀ i x y p ys H (os:St),os.length=n->xs[i]? = some x->us[i]? = some y->Pv i ys H->H p=none->g (.ref p) (os++c) (upd H p (.tup [x,y])) fun σ2 H2=>tt σ2 H2 fun b H3=>if b=true then te σ2 H3 fun y H4=>Pv (i+1) (ys++[y]) H4 else Pv (i+1) ys H3)
  (hd:∀ ys H,Pv xs.length ys H->Fin ys H):CompG (Itz K a b) n c g tt te H Fin:=by
 refine ⟨fun i m ys H=>m=xs.length-i/\i<=xs.length/\Pv i ys H,⟨xs.length,by simp,Nat.zero_le _,h0⟩,?_⟩
 rintro i m ys H ⟨rfl,hi,p⟩
 obtain ⟨q1,q2⟩:=hl i ys H hi p
 by_cases hlt:i<xs.length
 ·have hlt2:i<us.length:=by lia
  refine .inr ⟨⟨xs,us,xs[i],us[i],q1,q2,by simp [hlt],by simp [hlt2]⟩,hz i ys H hlt p,Pv (i+1),fun ys' H' p'=>⟨xs.length-(i+1),by lia,rfl,hlt,p'⟩,fun v H' y os hos=>?_⟩
  obtain ⟨pp,x,y,rfl,hp,rfl,e1,e2⟩:=y
  exact hs i x y pp ys H os hos (e1 xs q1) (e2 us q2) p hp
 ·have e:i=xs.length:=by lia
  subst e
  exact .inl ⟨⟨xs,us,q1,q2,.inl (Nat.le_refl _)⟩,hd ys H p⟩
theorem comp_listG{K:PySem.W.Frag}{n:Nat}{c:St}{g:TG}{tt:TT}{te:TE}{H:Hp}{Fin:List V->Hp->Prop}{a:Addr}{xs:List V}(Pv:Nat->List V->Hp->Prop)(h0:Pv 0 [] H)(hl:∀ i ys H,i<=xs.length->Pv i ys H->SqL K H a xs)(hz:∀ i ys H,i<xs.length->Pv i ys H->ys.length<sizeLine)
  (hs:∀ i x ys H (os:St),os.length=n->xs[i]? = some x->Pv i ys H->g x (os++c) H fun σ2 H2=>tt σ2 H2 fun b H3=>if b=true then te σ2 H3 fun y H4=>Pv (i+1) (ys++[y]) H4 else Pv (i+1) ys H3)
  (hd:∀ ys H,Pv xs.length ys H->Fin ys H):CompG (Itl K a) n c g tt te H Fin:=by
 refine ⟨fun i m ys H=>m=xs.length-i/\i<=xs.length/\Pv i ys H,⟨xs.length,by simp,Nat.zero_le _,h0⟩,?_⟩
 rintro i m ys H ⟨rfl,hi,p⟩
 have q1:=hl i ys H hi p
 by_cases hlt:i<xs.length
 ·refine .inr ⟨⟨xs,xs[i],q1,by simp [hlt]⟩,hz i ys H hlt p,Pv (i+1),fun ys' H' p'=>⟨xs.length-(i+1),by lia,rfl,hlt,p'⟩,fun v H' y os hos=>?_⟩
  obtain ⟨e,y⟩:=y
  subst e
  exact hs i v ys _ os hos (y xs q1) p
 ·have e:i=xs.length:=by lia
  subst e
  exact .inl ⟨⟨xs,q1,Nat.le_refl _⟩,hd ys H p⟩
section
variable {prog:Program} {w:World} {A:Around} {E:Value->Shared->Prop} {s:Shared}
theorem no_keys:typeLookup (.type "list") "keys" = pure none:=am_miss_of_fast (by decide +kernel)
theorem by_keys{l : Addr}{its : Array Value}{tk : Tok}{Q : Value -> Shared -> Prop}(pl : PlainL s.heap l its)(calm : A.handled = none)
    (out : ∀ h' t' e, Heap.NewAttrErr s.heap h' e (.ref l) "keys" -> E (.ref e) { s with heap := h', toks := t' }) : wpAny (model prog w) A (getAttrBy (.ref l) (.str "keys" tk) false) Q E s := by
  obtain ⟨⟨c, dct, dat, sl⟩, n, at_, k1, k2, k3⟩ := pl
  have k1 : c = .type "list" := k1
  have k2 : dct = none := k2
  have k3 : dat = .seq its n := k3
  subst k1 k2 k3
  obtain ⟨hp, gn, dr, tk0, os⟩ := s
  have ty : ∀ z, (⟨hp, gn, dr, z, os⟩ : Shared).TypeIs (.ref l) "list" := fun _ => ⟨_, at_, rfl⟩
  have m1 := sub_AttributeError
  have m2 := PySem.F.slot_list_getattribute.lookup
  have m3 := PySem.F.slot_list_getattribute.bind (.ref l)
  have m4 := am_list_getattr_none
  unfold getAttrBy
  repeat (any_goals (first
    | assumption
    | exact ty _
    | ((with_reducible show wpAny _ _ (call (Value.builtin "list.__getattribute__") _ _) _ _ _)
       refine call_meets PySem.F.slot_list_getattribute (ty _) am_entry_list_getattribute (PySem.F.args_list_getattribute_2 _ _) (meets_getattribute_miss_list l its n sl _ _ no_keys (by decide +kernel) (by size_fits)) ⟨at_, calm, fun h' t' e new => ?_⟩)
    | wp_step))
  obtain ⟨t1, u1, here⟩ := new.there
  show wpAny _ _ (getattributeRaised _ _ _ _ _ _ _) _ _ _
  unfold getattributeRaised
  repeat (any_goals (first | assumption | wp_step))
  exact out _ _ _ new
theorem keysQ{l:Addr}{its:Array Value}{Q:Option Value->Shared->Prop}(pl:PlainL s.heap l its)(calm:A.handled=none)(out:∀ h' t',Ext s.heap h'->Q none { s with heap:=h',toks:=t' }) :
  wpAny (model prog w) A (getAttr? (.ref l) "keys") Q E s:=by
 unfold getAttr? getAttrBy?
 refine wpAny_bind (wpAny_mkText (wpAny_bind (wpAny_attempt (by_keys pl calm fun h' t' e new=>?_))))
 obtain ⟨t1,u1,here⟩:=new.there
 dsimp only
 refine wpAny_bind (wpAny_isInstance (T := "AttributeError") ⟨_,here,rfl⟩ sub_AttributeError ?_)
 rw [if_pos rfl]
 refine wpAny_pure ?_
 exact out h' t' new.keeps
end
end L2
namespace L2
open PySem PySem.Spec PyProof.Rows
theorem en_dul:entryFor table "dict.update.loop" = some Builtin.«dict.update.loop» := entryFor_of_tree (by kernel_rfl)
theorem pl_dul:plainId "dict.update.loop" = true:=by decide +kernel
section
variable {prog:Program} {w:World} {K:Type} [DecidableEq K] {knd:KeyKind prog w K}
def PairAt(h:Heap)(t:Addr)(x y:Value):Prop:=∃ o n,h.get? t=some o/\o.cls = .type "tuple" /\ o.data = .seq #[x,y] n
variable {A:Around} {E:Value->Shared->Prop} {s:Shared}
theorem wp_pair{t:Addr}{x y:Value}{Q:List Value->Shared->Prop}(h:PairAt s.heap t x y)(q:Q [x,y] s):wpAny (model prog w) A (Builtin.Dict.pairItems (.ref t)) Q E s:=by
 obtain ⟨o,n,e,c,d⟩:=h
 unfold Builtin.Dict.pairItems
 refine wpAny_bind (wpAny_typeOf (T := "tuple") ⟨o,e,c⟩ ?_)
 rw [if_pos (by decide)]
 exact wpAny_bind (wpAny_seqItems e d (wpAny_pure q))
def mtDict:Obj:={ cls:=.type "dict",data:=.dict #[] }
end
end L2
namespace L2
open PySem PySem.Spec PyProof.Rows
section
variable {X:Cx}
def rInsert:V->List V->Hp->VK->Prop:=fun x vs H Q=>∃ l xs i y,x = .ref l/\vs=[.int i,y]/\H l=some (.lst xs)/\0<=i/\i<=(xs.length:Int)/\xs.length<sizeLine/\Q .non (upd H l (.lst (xs.take i.toNat++y::xs.drop i.toNat)))
theorem valsTake{xs:List V}{vs:List Value}(r:Vals xs vs):∀ k,Vals (xs.take k) (vs.take k):=by
 induction r with
 | nil=>intro k;simp;exact .nil
 | cons a b ih =>
  intro k
  cases k with
  | zero=>exact .nil
  | succ k=>exact .cons a (ih k)
theorem valsDrop{xs:List V}{vs:List Value}(r:Vals xs vs):∀ k,Vals (xs.drop k) (vs.drop k):=by
 induction r with
 | nil=>intro k;simp;exact .nil
 | cons a b ih =>
  intro k
  cases k with
  | zero=>exact .cons a b
  | succ k=>exact ih k
theorem mt_insert:MtM X "list.insert" rInsert:=by
 intro pins s σ H x vs v us Q I rx rv h
 obtain ⟨l,xs,i,y,rfl,rfl,hH,h0,h1,hz,q⟩:=h
 cases rx
 obtain ⟨u,w',rfl,ru,rw'⟩:=vals2 rv
 obtain ⟨t,rfl⟩:=ru
 obtain ⟨z,its,n,r,hl,e⟩:=I.lstM hH
 have hz':its.length<2^24:=by
  have:xs.length<2^24:=Nat.lt_of_lt_of_le hz (by rw [sizeLine_eq];decide)
  lia
 have fi:¬(!Builtin.List.listFitsIndex i)=true:=by
  rw [fitsIndex_both (by lia) (by lia)]
  decide
 refine call_meets PySem.F.slot_list_insert ⟨_,e,rfl⟩ PySem.F.entry_list_insert (PySem.F.args_list_insert_3 _ _ _) (PySem.AutoSeq1.list_insert_list_int_val_1 l its.toArray n i t w' fi (by rw [List.size_toArray];lia)) ⟨e,?_⟩
 refine ⟨.non,_,I.lset (its':=its.take i.toNat++w'::its.drop i.toNat) hH e ?_ ((valsTake r _).append (.cons rw' (valsDrop r _))) ?_,rfl,q⟩
 ·dsimp only
  rw [if_neg (by lia),List.size_toArray,Nat.min_eq_left (by lia)]
  simp only [List.extract_toArray,List.push_toArray,List.append_toArray,List.extract_eq_take_drop,List.size_toArray,Nat.sub_zero,List.drop_zero]
  rw [List.take_of_length_le (l:=its.drop i.toNat) (by rw [List.length_drop];lia),List.append_assoc]
  rfl
 ·rw [List.length_append,List.length_cons,List.length_take,List.length_drop]
  lia
theorem op_mulS:OpR X (binaryOp .Mult) (fun x y H Q=>∃ (z:Str) (n:Int),x = .str z/\y = .int n/\((n=0/\Q (.str "") H)\/(n=1/\Q (.str z) H))):=by
 intro pins s σ H x y v u Q I rx ry h
 obtain ⟨z,n,rfl,rfl,q⟩:=h
 obtain ⟨t,rfl⟩:=rx
 obtain ⟨t',rfl⟩:=ry
 rcases q with ⟨rfl,q⟩ | ⟨rfl,q⟩
 ·exact PySem.P.mul_str_none (by decide) (by decide) ⟨.str "",H,I.tok _,⟨_,rfl⟩,q⟩
 ·exact PySem.P.mul_str (by decide) (fun _ e=>by cases e) (fun _ e=>by cases e) (by rw [if_neg (by decide),if_pos (by rfl)];exact ⟨.str z,H,I,⟨_,rfl⟩,q⟩)
theorem isinst_two{pins:List (Addr×Obj)}{σ:St}{H:Hp}{s:Shared}{A:Around}{E:Value->Shared->Prop}{Q:Value->Shared->Prop}{b:Bool}{x:V}{u t:Value}{tp:Addr}{dd:Option Addr}{its:List Value}{n:Nat}{sl:Array (Option Value)}
  (I:Inv X pins σ H s) (rx:RelV x u) (ty:TyOf X.K H x t) (htp:s.heap.get? tp=some ⟨.type "tuple",dd,.seq its.toArray n,sl⟩) (e:PySem.W.kitAny X.K t its=some b) (h:∀ tk,Q (.bool b) { s with toks:=tk }) :
  wpAny (model X.prog X.w) A (call (.builtin "isinstance") [u,.ref tp]) Q E s:=by
 cases ty with
 | non=>cases (show u=Value.none from rx);exact PySem.W.kia_tup PySem.W.kitx_none I.kIn True.intro htp e (fun z=>nomatch z) h
 | bl y=>cases (show u=Value.bool y from rx);exact PySem.W.kia_tup PySem.W.kitx_bool I.kIn True.intro htp e (fun z=>nomatch z) h
 | int i=>obtain ⟨t,q⟩:=(show ∃ t,u=Value.int i t from rx);cases q;exact PySem.W.kia_tup PySem.W.kitx_int I.kIn True.intro htp e (fun z=>nomatch z) h
 | str y=>obtain ⟨t,q⟩:=(show ∃ t,u=Value.str y t from rx);cases q;exact PySem.W.kia_tup PySem.W.kitx_str I.kIn True.intro htp e (fun z=>nomatch z) h
 | flt y=>obtain ⟨t,q⟩:=(show ∃ t,u=Value.float y t from rx);cases q;exact PySem.W.kia_tup PySem.W.kitx_float I.kIn True.intro htp e (fun z=>nomatch z) h
 | @lst a xs ea =>
  cases (show u=Value.ref a from rx)
  obtain ⟨_,_,n,_,h1⟩:=(show ObjOk X.prog X.w H s.heap a (.lst xs) from I.hok a _ ea)
  exact PySem.W.kia_tup PySem.W.kitx_list I.kIn ⟨_,h1,rfl⟩ htp e (fun z=>nomatch z) h
 | @frz a ob xs ea =>
  cases (show u=Value.ref a from rx)
  obtain ⟨_,_,_,n,_,h1⟩:=(show ObjOk X.prog X.w H s.heap a (.frz ob (.lst xs)) from I.hok a _ ea)
  exact PySem.W.kia_tup PySem.W.kitx_list I.kIn ⟨_,h1,rfl⟩ htp e (fun z=>nomatch z) h
 | @tup a xs ea =>
  cases (show u=Value.ref a from rx)
  obtain ⟨_,_,_,p⟩:=(show ObjOk X.prog X.w H s.heap a (.tup xs) from I.hok a _ ea)
  obtain ⟨o,h1,h2,_⟩:=p
  exact PySem.W.kia_tup PySem.W.kitx_tuple I.kIn ⟨o,h1,h2⟩ htp e (fun z=>nomatch z) h
 | @dK a kvs ea =>
  cases (show u=Value.ref a from rx)
  obtain ⟨_,_,vs,_,p⟩:=(show ObjOk X.prog X.w H s.heap a (.dK kvs) from I.hok a _ ea)
  obtain ⟨o,es,ep,h1,h2,_⟩:=p
  exact PySem.W.kia_tup PySem.W.kitx_dict I.kIn ⟨o,h1,h2.1⟩ htp e (fun z=>nomatch z) h
 | @dT a kvs ea =>
  cases (show u=Value.ref a from rx)
  obtain ⟨_,_,xs,_,o,es,ep,h1,h2,_⟩:=(show ObjOk X.prog X.w H s.heap a (.dT kvs) from I.hok a _ ea)
  exact PySem.W.kia_tup PySem.W.kitx_dict I.kIn ⟨o,h1,h2.1⟩ htp e (fun z=>nomatch z) h
 | @ins a C dx fs ea cl ha hn htk hm =>
  cases (show u=Value.ref a from rx)
  obtain ⟨mA,O,_⟩:=ins_get I.hok ea
  obtain ⟨od,J,_⟩:=O.look
  exact PySem.W.kia_tup (PySem.W.kitx_own (cl.get _) cl.hd ha hn htk hm) I.kIn J htp e (fun z=>nomatch z) h
theorem call_isin2{K:PySem.W.Frag}(hK:X.K=K){S T:String}:CallR X (.builtin "isinstance") (fun xs H Q=>∃ x p t b,xs=[x,.ref p]/\H p=some (.tup [.ty S,.ty T])/\TyOf K H x t/\PySem.W.kitAny K t [.type S,.type T]=some b/\Q (.bl b) H):=by
 subst hK
 intro pins s σ H xs us Q I r h
 obtain ⟨x,p,t,b,rfl,hp,ty,e,q⟩:=h
 obtain ⟨u,w',rfl,rx,rt⟩:=vals2 r
 cases (show w'=Value.ref p from rt)
 obtain ⟨_,its,rv,ob,e1,e2,n,e3⟩:=(show ObjOk X.prog X.w H s.heap p (.tup [.ty S,.ty T]) from I.hok p _ hp)
 obtain ⟨a,b',rfl,ra,rb⟩:=vals2 rv
 cases (show a=Value.type S from ra)
 cases (show b'=Value.type T from rb)
 obtain ⟨cl,dd,da,sl⟩:=ob
 dsimp only at e2 e3
 subst e2 e3
 exact isinst_two I rx ty e1 e fun tk=>⟨.bl b,H,I.tok _,rfl,q⟩
end
section
variable {prog:Program} {w:World} {K:Type} [DecidableEq K] {knd:KeyKind prog w K}
def stK(L:List (K×Value)):List (K×Value):=L.foldl (fun xs p=>stored xs p.1 p.2) []
theorem stK_snoc(L:List (K×Value))(p:K×Value):stK (L++[p])=stored (stK L) p.1 p.2:=by
 unfold stK
 rw [List.foldl_append]
 rfl
theorem stored_len(xs:List (K×Value))(k:K)(u:Value):(stored xs k u).length<=xs.length+1:=by
 unfold stored
 split
 ·rw [List.length_map];lia
 ·rw [List.length_append];exact Nat.le_refl _
theorem stK_len:∀ L:List (K×Value),(stK L).length<=L.length:=by
 refine snoc_ind (Nat.le_refl _) fun L p ih=>?_
 rw [stK_snoc,List.length_append]
 exact Nat.le_trans (stored_len _ _ _) (Nat.succ_le_succ ih)
variable {A:Around} {E:Value->Shared->Prop} {s:Shared}
theorem dmoveK{h h':Heap}{D:Addr}{xs:List (K×Value)}(d:h.DictOf knd D xs)(e:∀ o,h.get? D=some o->h'.get? D=some o):h'.DictOf knd D xs:=by
 obtain ⟨o,es,ep,d1,r⟩:=d
 exact ⟨o,es,ep,e o d1,r⟩
theorem loopK{R:Result->Shared->Prop}{I:Addr}{fp wr:List Addr}{G:Array GenState->Array GenState->Prop}{n:Nat}{P:Nat->Value->Prop}{St:Nat->Shared->Prop}
  (W:WalksS prog w A.in1 I fp wr G n P St) (D:Addr) (far:D∉fp) (ps:List (K×Value)) (hl:ps.length=n) (hn:n<=100000) (h0:Heap)
  (ky:∀ i v,P i v->∃ t kv p,v = .ref t/\PairAt h0 t kv p.2/\knd.is p.1 kv=true/\ps[i]? = some p) (h0D:h0.get? D=none) (h0w:∀ b∈wr,h0.get? b=none) :
  ∀ (left i:Nat) (c:Int) (tk:Tok) (z:Shared),i+left=n->St i z->Ext h0 z.heap->z.heap.DictOf knd D (stK (ps.take i)) ->
   (∀ y,Moved (D::wr) G z y->y.heap.DictOf knd D (stK ps)->R (.ok (.ret .none)) y) ->
   codeAny (model prog w) A (.builtin "dict.update.loop" ⟨[.ref D,.ref I,.int c tk,.none],[]⟩) R z
 | 0,i,c,tk,z,e,wi,ex,di,out=>by
  obtain rfl:i=n:=e
  have nw:D∉wr:=fun q=>far (W.sub D q)
  refine codeAny_builtin en_dul ?_
  rw [Around.under_plainId pl_dul _]
  show wpAny _ A.in1 (pyNext (.ref I) >>= _) _ _ z
  refine wpAny_bind (W.done z _ _ wi fun y mv=>?_)
  rw [<-hl,List.take_length] at di
  refine wpAny_bind (m:=Builtin.Dict.addKeywords D []) (wpAny_pure ?_)
  refine wpAny_pure (out y (mv.mono fun b=>List.mem_cons_of_mem _) ?_)
  exact dmoveK di (fun o q=>mv.heap D o nw q)
 | left+1,i,c,tk,z,e,wi,ex,di,out=>by
  have nw:D∉wr:=fun q=>far (W.sub D q)
  have il:i<ps.length:=by lia
  refine codeAny_builtin en_dul ?_
  rw [Around.under_plainId pl_dul _]
  show wpAny _ A.in1 (pyNext (.ref I) >>= _) _ _ z
  refine wpAny_bind (W.item i z _ _ (by lia) wi fun v y pv wj mv=>?_)
  obtain ⟨t,kv,p,rfl,pt,kb,pi⟩:=ky i v pv
  have ey:Ext h0 y.heap:=fun c o q=>mv.heap c o (fun hc=>by rw [h0w c hc] at q;cases q) (ex c o q)
  have dy:y.heap.DictOf knd D (stK (ps.take i)):=dmoveK di (fun o q=>mv.heap D o nw q)
  refine wpAny_bind (wpAny_holding (wpAny_bind (wpAny_tryCatch (wp_pair (x:=kv) (y:=p.2) (let ⟨o,n,a,r⟩:=pt;⟨o,n,ey _ _ a,r⟩) ?_))))
  show wpAny _ A.in1 (holding [kv,p.2] (dictSet D kv p.2)) _ _ y
  have hz:(stK (ps.take i)).length<=sizeLine:=by
   have:=stK_len (ps.take i)
   rw [List.length_take] at this
   rw [sizeLine_eq]
   lia
  refine wpAny_holding (wpAny_dictSet_pairs (knd:=knd) (hsz:=hz) kb dy fun hn' dn only=>?_)
  have et:ps.take (i+1)=ps.take i++[p]:=by rw [List.take_add_one,pi];rfl
  rw [<-stK_snoc,<-et] at dn
  have oth:∀ {c:Addr} {o:Obj},c≠D->y.heap.get? c=some o->hn'.get? c=some o:=fun {c o} nc q=>by rw [only.2 c nc];exact q
  refine wpAny_pure ⟨plainId_quiet pl_dul _,loopK W D far ps hl hn h0 ky h0D h0w left (i+1) _ _ _ (by lia) (W.frame _ y _ _ wj (Nat.le_add_right _ _) fun c hc o q=>oth (fun z=>far (z▸hc)) q) (fun c o q=>oth (fun z=>by rw [z,h0D] at q;cases q) (ey c o q)) dn fun x mx dx=>?_⟩
  exact out x (Moved.trans W.gtrans ((mv.mono fun b=>List.mem_cons_of_mem _).then_heap (Nat.le_add_right _ _) fun c o hc q=>oth (fun z=>hc (z▸List.mem_cons_self)) q) mx) dx
theorem call_dict_prs{l:Addr}{items:Array Value}{ps:List (K×Value)}{Q:Value->Shared->Prop}(calm:A.handled=none)(pl:PlainL s.heap l items)(same:ps.length=items.size)(few:ps.length<=100000)
  (ky:∀ (i:Nat) (v:Value),items[i]? = some v->∃ (t:Addr) (kv:Value) (p:K×Value),v = .ref t/\PairAt s.heap t kv p.2/\knd.is p.1 kv=true/\ps[i]? = some p)
  (out:∀ (h':Heap) (tk:Nat),h'.DictOf knd s.heap.objs.size (stK ps)->Ext s.heap h'->Q (.ref s.heap.objs.size) { s with heap:=h',toks:=tk }) :
  wpAny (model prog w) A (call (.type "dict") [.ref l]) Q E s:=by
 refine callType_codes (Q₁:=fun x z=>x = .ref s.heap.objs.size/\z={ s with heap:=s.heap.push mtDict }) PySem.F.kt_called_dict (PySem.F.kt_typeCall_dict_1 _) PySem.F.entry_dict_init (kt_code_dict_new _ ⟨rfl,rfl⟩) ?_
 rintro x z ⟨rfl,rfl⟩
 have new:(s.heap.push mtDict).DictOf knd s.heap.objs.size []:=Heap.DictOf.new s.heap
 have tyD:Shared.TypeIs { s with heap:=s.heap.push mtDict } (.ref s.heap.objs.size) "dict" := by
  obtain ⟨o,es,ep,ho,hx,_⟩:=new
  exact ⟨o,ho,hx.1⟩
 obtain ⟨ol,nl,el,cl,dl,sl⟩:=pl
 have pl1:PlainL (s.heap.push mtDict) l items:=⟨ol,nl,Heap.get?_push_of_some _ el,cl,dl,sl⟩
 have lt_l:l<s.heap.objs.size:=Heap.lt_size el
 refine ⟨tyD,PySem.F.args_dict_init_2 _ _,?_⟩
 unfold Builtin.«dict.__init__»
 refine wpAny_bind ?_
 unfold Builtin.Dict.selfAndRest
 refine wpAny_bind (wpAny_notOrdered_dict tyD ?_)
 show wpAny _ _ (pure (s.heap.objs.size,[Value.ref l])) _ _ _
 refine wpAny_pure ?_
 show wpAny _ _ (Builtin.Dict.updateFrom "dict.__init__" s.heap.objs.size (.ref l) [] .none) _ _ _
 unfold Builtin.Dict.updateFrom
 have ty:Shared.TypeIs { s with heap:=s.heap.push mtDict } (.ref l) "list" := ⟨ol,Heap.get?_push_of_some _ el,cl⟩
 refine wpAny_bind (wpAny_typeOf ty ?_)
 rw [if_pos (by decide)]
 refine wpAny_bind (keysQ pl1 (by simp [calm]) fun h1 t1 e1=>?_)
 rw [if_pos (show (none:Option Value).isNone=true from rfl)]
 have new2:h1.DictOf knd s.heap.objs.size []:=dmoveK new (fun o q=>e1 _ _ q)
 have el2:=e1 _ _ (Heap.get?_push_of_some _ el)
 have il2:h1.IsList l items:=⟨ol,el2,cl,nl,sl⟩
 refine wpAny_bind (wpAny_rule (wpAny_bind (wpAny_pyIter_list il2 (wpAny_pure ?_))))
 dsimp only
 have lt1:s.heap.objs.size<h1.objs.size:=by
  obtain ⟨o,_,_,e,_⟩:=id new2
  exact Heap.lt_size e
 have l_it:l≠h1.objs.size:=Nat.ne_of_lt (Nat.lt_trans lt_l lt1)
 have far:s.heap.objs.size∉[h1.objs.size,l]:=by
  simp only [List.mem_cons,List.not_mem_nil,or_false,not_or]
  exact ⟨Nat.ne_of_lt lt1,Nat.ne_of_gt lt_l⟩
 refine ⟨plainId_quiet pl_dul _,loopK (knd:=knd) (Walks.list (A:=A.in1.in1) (by simp [calm]) _ l l_it items).toS s.heap.objs.size far ps same (by lia) s.heap ky (none_past (Nat.le_refl _)) (fun b q=>?_) items.size 0 _ _ _ (Nat.zero_add _) ⟨⟨_,Heap.get?_push_size _ rfl,rfl,rfl⟩,⟨ol,Heap.get?_push_of_some _ el2,cl,nl,sl⟩⟩ (fun c o q=>Heap.get?_push_of_some _ (e1 _ _ (Heap.get?_push_of_some _ q))) (dmoveK new2 (fun o q=>Heap.get?_push_of_some _ q)) fun y mv dy=>?_⟩
 ·rw [List.mem_singleton.mp q]
  exact none_past (Nat.le_of_lt lt1)
 ·have kp:Ext s.heap y.heap:=fun b o q=>by
   have lb:=Heap.lt_size q
   refine mv.heap b o ?_ (Heap.get?_push_of_some _ (e1 _ _ (Heap.get?_push_of_some _ q)))
   simp only [List.mem_cons,List.not_mem_nil,or_false,not_or]
   exact ⟨Nat.ne_of_lt lb,Nat.ne_of_lt (Nat.lt_trans lb lt1)⟩
  obtain ⟨hy,gy,dy',ty',oy⟩:=y
  cases (show gy=s.gens from mv.gens)
  cases (show dy'=s.drawn from mv.drawn)
  cases (show oy=s.os from mv.os)
  exact ⟨rfl,out hy ty' dy kp⟩
end
def ptK(L:List (Key×V)):List (Key×V):=L.foldl (fun N p=>putK N p.1 p.2) []
theorem ptK_snoc(L:List (Key×V))(p:Key×V):ptK (L++[p])=putK (ptK L) p.1 p.2:=by
 unfold ptK
 rw [List.foldl_append]
 rfl
theorem ptK_rel{L:List (Key×V)}{xs:List (Key×Value)}(r:KV L xs):KV (ptK L) (stK xs):=by
 have go:∀ {L:List (Key×V)} {xs:List (Key×Value)},KV L xs->∀ {N:List (Key×V)} {ys:List (Key×Value)},KV N ys->KV (L.foldl (fun N p=>putK N p.1 p.2) N) (xs.foldl (fun xs p=>stored xs p.1 p.2) ys):=by
  intro L xs r
  unfold KV at r
  induction r with
  | nil=>exact fun q=>q
  | @cons p q l m h t ih =>
   intro N ys rn
   obtain ⟨h1,h3⟩:=h
   rw [List.foldl_cons,List.foldl_cons,<-h1]
   exact ih (rn.put p.1 h3)
 exact go r .nil
theorem ptK_len:∀ L:List (Key×V),(ptK L).length<=L.length:=by
 refine snoc_ind (Nat.le_refl _) fun L p ih=>?_
 rw [ptK_snoc,List.length_append]
 have:=x_q (ptK L) p.1 p.2
 exact Nat.le_trans (by lia) (Nat.succ_le_succ ih)
def PrK(H:Hp)(t:Addr)(p:Key×V):Prop:=H t=some (.tup [kV p.1,p.2])
def tDicK(xs:List V)(H:Hp)(Q:VK):Prop:=∃ (l:Addr) (rs:List Addr) (L:List (Key×V)),xs=[.ref l]/\H l=some (.lst (rs.map V.ref))/\Paired (PrK H) rs L/\L.length<=100000/\∀ a,H a=none->Q (.ref a) (upd H a (.dK (ptK L)))
theorem call_dicK{X:Cx}(hc:X.calm=true):CallR X (.type "dict") tDicK:=by
 intro pins s σ H xs us Q I r h
 obtain ⟨l,rs,L,rfl,hl,pr,hz,q⟩:=h
 obtain ⟨u,rfl,ru⟩:=vals1 r
 cases ru
 obtain ⟨its,rv,pl,hzl⟩:=I.list (SqL.of hl)
 clear hzl
 have hlen:its.length=L.length:=by rw [<-rv.length,List.length_map,Paired.length pr]
 obtain ⟨ps,rel,hps⟩:∃ ps:List (Key×Value),KV L ps/\∀ (i:Nat) (p:Key×Value),ps[i]? = some p->∃ t kv,rs[i]? = some t/\PairAt s.heap t kv p.2/\(mixKind X.prog X.w).is p.1 kv=true:=by
  clear hl rv pl hlen hz q
  induction pr with
  | nil=>exact ⟨[],.nil,fun i p h=>by simp at h⟩
  | @cons t p rs L h1 h2 ih =>
   obtain ⟨ps,rel,hps⟩:=ih
   obtain ⟨vs,rv,pt,_⟩:=I.tuple (SqT.of h1)
   cases rv with
   | @cons _ kv _ _ r1 r2 =>
    cases r2 with
    | @cons _ u _ _ r2 r3 =>
     cases r3
     refine ⟨(p.1,u)::ps,.cons ⟨rfl,r2⟩ rel,fun i q hq=>?_⟩
     match i,hq with
     | 0,hq =>
      cases hq
      obtain ⟨o,e,c,n,d⟩:=id pt
      exact ⟨t,kv,rfl,⟨o,n,e,c,d⟩,kV_is r1⟩
     | i+1,hq=>exact hps i q hq
 have hpl:ps.length=L.length:=(Paired.length rel).symm
 refine call_dict_prs (knd:=mixKind X.prog X.w) (ps:=ps) (I.ok.hd hc) pl (by rw [List.size_toArray,hlen,hpl]) (by lia) (fun i v hv=>?_) fun h' tk hD hk=>?_
 ·have hv':its[i]? = some v:=by simpa using hv
  obtain ⟨t,ht,rfl⟩:=vals_ref rv i v hv'
  have il:i<ps.length:=by rw [hpl,<-hlen];exact (List.getElem?_eq_some_iff.mp hv').1
  obtain ⟨t',kv,ht',pa,kk⟩:=hps i _ (List.getElem?_eq_getElem il)
  rw [ht] at ht'
  cases ht'
  exact ⟨t,kv,_,rfl,pa,kk,List.getElem?_eq_getElem il⟩
 ·have hzz:(ptK L).length<=sizeLine:=by have:=ptK_len L;rw [sizeLine_eq];lia
  exact ⟨.ref s.heap.objs.size,_,I.laid (a:=s.heap.objs.size) (o:=.dK (ptK L)) hk (Nat.le_refl _) (dk_new hzz (beq_eq_false_iff_ne.mpr (Ne.symm (Nat.ne_of_lt I.big))) (ptK_rel rel) hD),rfl,q _ (I.hok.fresh (Nat.le_refl _))⟩
open PySem PySem.Spec PyProof.Rows
theorem ObjOk.swap{P:Program}{w:World}{H H':Hp}{h:Heap}{a:Addr}{o:HO}(x:ObjOk P w H h a o)(ho:∀ b,H b=some (.own a)->H' b=some (.own a))(ht:∀ b xs,H b=some (.tup xs)->H' b=some (.tup xs))(hz:∀ b o y,H b=some (.frz o (.own y))->H' b=some (.frz o (.own y))):ObjOk P w H' h a o:=by
 induction o with
 | dT kvs =>
  obtain ⟨z,y,xs,r,c⟩:=x
  exact ⟨z,y,xs,Paired.mapP r fun p q z=>⟨z.1,ht _ _ z.2.1,z.2.2⟩,c⟩
 | ins C dx fs =>
  obtain ⟨d,r⟩:=x
  exact ⟨ho _ d,r⟩
 | frz ob u ih=>obtain ⟨e,q⟩:=x;exact ⟨e,ih q⟩
 | tbl pos qual =>
  obtain ⟨ps,e,t,c⟩:=x
  refine ⟨ps,e,t,?_⟩
  rcases c with c | ⟨c,oc,vs,tq,c1,c2,c3⟩
  ·exact .inl c
  ·exact .inr ⟨c,oc,vs,tq,c1,hz _ _ _ c2,c3⟩
 | _=>exact x
section
variable {X:Cx} {pins:List (Addr×Obj)} {σ:St} {H:Hp} {s:Shared}
theorem Inv.thaw(I:Inv X pins σ H s){a:Addr}{o:Obj}{kvs:List (Key×V)}(e:H a=some (.frz o (.dK kvs)))(h0:∀ o' u,X.H₀ a≠some (.frz o' u)):Inv X pins σ (upd H a (.dK kvs)) s:=by
 have ne:∀ {b:Addr} {u:HO},H b=some u->(∀ o' u',u ≠ .frz o' u')->b≠a:=fun {b u} q n z=>by
  rw [z,e] at q
  cases q
  exact n _ _ rfl
 have no:∀ {b:Addr},H b=none->b≠a:=fun {b} q z=>by rw [z,e] at q;cases q
 refine ⟨I.ok,I.os,I.bare,⟨I.base.keep,I.base.slot,fun b ob q n hx=>?_,I.base.there,fun b xs q=>?_,fun b ob u q=>?_,fun b p r q=>?_⟩,I.loc,I.cell,?_,fun x c q=>?_,fun p hp=>?_,fun b u q=>?_,I.len⟩
 ·have z:=I.base.free b ob q n hx
  rw [z_j (no z)]
  exact z
 ·have z:=I.base.tups b xs q
  rw [z_j (ne z (fun _ _ y=>by cases y))]
  exact z
 ·have z:=I.base.frzs b ob u q
  rw [z_j (fun y=>by rw [y] at q;exact h0 _ _ q)]
  exact z
 ·have z:=I.base.tbls b p r q
  rw [z_j (ne z (fun _ _ y=>by cases y))]
  exact z
 ·rw [z_j (no I.free)]
  exact I.free
 ·rw [z_j (no (I.freeC x c q))]
  exact I.freeC x c q
 ·obtain ⟨h1,h2,h3⟩:=I.pin p hp
  exact ⟨h1,by rw [z_j (no h2)];exact h2,h3⟩
 ·by_cases hb:b=a
  ·subst hb
   rw [z_b] at q
   cases q
   obtain ⟨_,z,y,vs,r,d⟩:=(show ObjOk X.prog X.w H s.heap b (.frz o (.dK kvs)) from I.hok b _ e)
   exact ⟨z,y,vs,r,d⟩
  ·rw [z_j hb] at q
   refine (I.hok b u q).swap (fun d z=>?_) (fun d xs z=>?_) fun d ob x z=>?_
   ·rw [z_j (ne z (fun _ _ y=>by cases y))];exact z
   ·rw [z_j (ne z (fun _ _ y=>by cases y))];exact z
   ·rw [z_j (fun y=>by rw [y,e] at z;cases z)];exact z
def sThaw(H0:Hp)(t:TS):TS:=fun D σ H=>∃ a o kvs,H a=some (.frz o (.dK kvs))/\(∀ o' u,H0 a≠some (.frz o' u))/\t D σ (upd H a (.dK kvs))
theorem ps_thaw{st:Stmt}{t:TS}{H0:Hp}(hH:X.H₀=H0)(h:PS X st t):PS X st (sThaw H0 t):=by
 intro pins s σ H D I q
 obtain ⟨a,o,kvs,e,n,q⟩:=q
 exact h pins s σ _ D (I.thaw e (by rw [hH];exact n)) q
end
open PySem PySem.Spec PyProof.Rows
theorem call_any{X:Cx}:CallR X (.builtin "any") (fun xs H Q=>X.calm=true/\∃ (p:Addr) (bs:List Bool),xs=[.ref p]/\SqL X.K H p (bs.map V.bl)/\Q (.bl (bs.any id)) H):=by
 intro pins s σ H xs us Q I r h
 obtain ⟨hc,p,bs,rfl,hp,q⟩:=h
 obtain ⟨u,rfl,ru⟩:=vals1 r
 cases ru
 obtain ⟨its,rv,pl,hz⟩:=I.list hp
 have e:=bools_of rv
 subst e
 have hl:=pl.isList
 have hlt:p<s.heap.objs.size:=by obtain ⟨_,e,_⟩:=hl;exact Heap.lt_size e
 refine call_any_walk (wpAny_pyIter_list hl ?_)
 refine ⟨s.heap.objs.size,[s.heap.objs.size,p],[s.heap.objs.size],(bs.map Value.bool).toArray.size,_,_,fun i=>(bs[i]?).getD false,rfl,Walks.list (A:=X.A.in1) (I.ok.hd hc) _ p (Nat.ne_of_lt hlt) (bs.map Value.bool).toArray,
  ⟨⟨_,Heap.get?_push_size _ rfl,rfl,rfl⟩,hl.push _⟩,fun i v s' Q' E' hP hQ=>?_,fun h' tk hk=>?_⟩
 ·have hP':(bs.map Value.bool)[i]? = some v:=by simpa using hP
  rw [List.getElem?_map] at hP'
  cases e:bs[i]? with
  | none=>rw [e] at hP';cases hP'
  | some b =>
   rw [e] at hP'
   have ev:Value.bool b=v:=Option.some.inj hP'
   subst ev
   simp only [e,Option.getD_some] at hQ
   exact wpAny_truthy_bool hQ
 ·have e:((List.range (bs.map Value.bool).toArray.size).any fun i=>(bs[i]?).getD false)=bs.any id:=by
   rw [List.size_toArray,List.length_map]
   rw [Bool.eq_iff_iff,List.any_eq_true,List.any_eq_true]
   constructor
   ·rintro ⟨i,hi,h⟩
    have hi':=List.mem_range.mp hi
    rw [List.getElem?_eq_getElem hi'] at h
    exact ⟨_,List.getElem_mem hi',h⟩
   ·rintro ⟨b,hb,h⟩
    obtain ⟨i,hi,rfl⟩:=List.mem_iff_getElem.mp hb
    exact ⟨i,List.mem_range.mpr hi,by rw [List.getElem?_eq_getElem hi];exact h⟩
  rw [e]
  exact ⟨.bl _,H,I.kept (t':=tk) fun b o eb=>hk b o (fun z=>by rw [List.mem_singleton.mp z] at eb;exact Nat.lt_irrefl _ (Heap.lt_size eb)) (Heap.get?_push_of_some _ eb),rfl,q⟩
theorem vals_keys{kvs:List (Key×V)}{vs:List (Key×Value)}{prog:Program}{w:World}(r:KV kvs vs):∀ {its:List Value},its.length=vs.length->(∀ (j:Nat) (v:Value),its[j]? = some v->∃ (k:Key) (x:Value),vs[j]? = some (k,x)/\(mixKind prog w).is k v=true)->Vals (kvs.map fun kv=>kV kv.1) its:=by
 unfold KV at r
 induction r with
 | nil =>
  intro its hl _
  rw [List.eq_nil_of_length_eq_zero hl]
  exact .nil
 | @cons p q l m hpq t ih =>
  intro its hl h
  obtain ⟨v,its,rfl⟩:=List.exists_cons_of_length_eq_add_one hl
  obtain ⟨k,x,e,hk⟩:=h 0 v rfl
  cases e
  refine .cons ?_ (ih (Nat.succ.inj hl) fun j v hj=>h (j+1) v hj)
  show RelV (kV p.1) v
  rw [hpq.1]
  exact kV_of_is hk
theorem call_listD{X:Cx}(hc:X.calm=true):CallR X (.type "list") (fun xs H Q=>∃ a kvs,xs=[.ref a]/\Rd H a (.dK kvs)/\∀ l,H l=none->Q (.ref l) (upd H l (.lst (kvs.map fun kv=>kV kv.1)))):=by
 intro pins s σ H xs us Q I r h
 obtain ⟨a,kvs,rfl,e,q⟩:=h
 obtain ⟨u,rfl,ru⟩:=vals1 r
 cases ru
 obtain ⟨z,hd,vs,rel,o,es,ep,ho,hx,hdt,hk,hp,hn⟩:=dk_rd I.hok e
 have hl:=rel.length
 have DA:s.heap.DictAt (mixKind X.prog X.w) a vs ep:=⟨o,es,ho,hx,hdt,hk,hp,hn⟩
 refine PySem.W.kdl_call (PySem.W.kdl_dict (knd:=mixKind X.prog X.w) (kvs:=vs) (ep:=ep) hd) (I.ok.hd hc) DA (by lia) fun h' tk acc' c' kp hS hacc=>?_
 have hV:Vals (kvs.map fun kv=>kV kv.1) acc'.toList:=vals_keys rel (by rw [Array.length_toList];exact hacc.1) fun j v hj=>hacc.2 j v (by rw [<-Array.getElem?_toList];exact hj)
 exact ⟨.ref s.heap.objs.size,_,I.laid (a:=s.heap.objs.size) (o:=.lst (kvs.map fun kv=>kV kv.1)) (t':=tk) kp (Nat.le_refl _) ⟨by rw [List.length_map];exact z,acc'.toList,c',hV,by simpa using hS⟩,rfl,q _ (I.hok.fresh (Nat.le_refl _))⟩
end L2
set_option maxHeartbeats 4000000
namespace L2
open PySem
theorem pow_pos2(n:Nat):(0:Int)<2^n:=by rw [cast_pow];have:0<2^n:=Nat.pow_pos (by decide);lia
theorem pow_le2{n:Nat}(h:n<=50):(2:Int)^n<=1125899906842624:=by
 have h1:(2:Nat)^n<=2^50:=Nat.pow_le_pow_right (by decide) h
 rw [cast_pow]
 generalize 2^n=N at h1
 lia
theorem join_lenM(us:List Str):(Txt.join "" us).length=(us.map (·.length)).sum:=by
 have h1:Txt.join "" us=Str.join "" us:=StrLaws.glued_eq_join "" us
 rw [h1]
 clear h1
 induction us with
 | nil=>rfl
 | cons a r ih =>
  cases r with
  | nil=>simp [Str.join]
  | cons b r =>
   rw [List.map_cons,List.sum_cons,<-ih]
   show (a ++ "" ++ Str.join "" (b::r)).length=_
   rw [Str.length_append,Str.length_append]
   show a.length+0+_=_
   lia
theorem sum_ones{zs:List Str}(h:∀ z∈zs,z.length=1):(zs.map (·.length)).sum<=zs.length:=by
 induction zs with
 | nil=>exact Nat.le_refl _
 | cons z r ih =>
  rw [List.map_cons,List.sum_cons,h z List.mem_cons_self,List.length_cons]
  have:=ih fun y hy=>h y (List.mem_cons_of_mem _ hy)
  lia
def sp_sayings_in:Sp:=fun vs H Q _=>∃ (z:Str) (hd subs:List PyData) (v:V),vs=[v]/\z∈words/\formK z=hd.length+1/\hd.length<=2/\Dat H (.tuple (.str z::(hd++subs))) v/\∀ p xs H',Same H H'->H' p=some (.tup xs)->Dats H' subs xs->Q (.ref p) H'
theorem dget{H:Hp}{a:Addr}{kvs:List (Key×V)}{x:Str}{v:V}(h:H a=some (.dK kvs))(e:valV kvs (.inr x)=some v):DGet H a (.str x) (some v):=by
 have:=DGet.k (k:=.inr x) h
 rw [e] at this
 exact this
theorem fn_none{P:Program}{w:World}{K:PySem.W.Frag}{mg:Str->Option Value}{base:Heap}{k:Nat}{f:Addr}{fd:FuncData}{ps:List Str}{sp:Sp}(h:∀ vs H Q E,¬sp vs H Q E):FnOk P w K mg base CX0 k f fd ps sp :=
 ⟨fun vs H Q E q=>(h _ _ _ _ q).elim,fun _ _ _ _ _ _ _ _ _ _ _ _ _ q=>(h _ _ _ _ q).elim⟩
def sp_L_rooms:Sp:=fun vs H Q _=>∃ (l:Addr) (room many:Int),vs=[.ref l,.int room,.int many]/\Bag H l/\0<=many/\many<=3/\many<=room/\room<=1000/\∀ p (rs:List Int) H',H p=none->p≠l->Bg l H H'->H' p=some (.lst (rs.map V.int))->(rs.length:Int)=many->(∀ r∈rs,r<=1001)->Q (.ref p) H'
def wantN(z:Str):Nat:=if z = "choice" then 3 else if z = "cut" \/ z = "table" \/ z = "not" \/ z = "up" \/ z = "down" then 1 else 2
theorem inStr3{z:Str}(h:inV (V.str z) [V.str "not",V.str "up",V.str "down"]=true):z = "not" \/ z = "up" \/ z = "down" := by
 simp [inV,eqV] at h
 rcases h with h | h | h
 ·exact .inl h.symm
 ·exact .inr (.inl h.symm)
 ·exact .inr (.inr h.symm)
theorem notStr3{z:Str}(h:inV (V.str z) [V.str "not",V.str "up",V.str "down"]=false):z ≠ "not" /\ z ≠ "up" /\ z ≠ "down" := by
 refine ⟨fun e=>?_,fun e=>?_,fun e=>?_⟩<;>(rw [e] at h;exact absurd h (by decide))
def GoodD(kvs:List (Key×V))(m:Nat):Prop:=(∀ kv∈kvs,∃ (x:Str) (i:Int),kv=(.inr x,.int i)/\1<=i/\i<=8)/\(∀ kv∈kvs,valV kvs kv.1=some kv.2)/\kvs.length<=m
theorem GoodD.nil:GoodD [] 0:=⟨(fun _ h=>nomatch h),(fun _ h=>nomatch h),Nat.le_refl _⟩
theorem GoodD.up{kvs:List (Key×V)}{m k:Nat}(h:GoodD kvs m)(l:m<=k):GoodD kvs k:=⟨h.1,h.2.1,Nat.le_trans h.2.2 l⟩
theorem mem_putK{kvs:List (Key×V)}{k:Key}{v:V}{kv:Key×V}(h:kv∈putK kvs k v):kv=(k,v)\/(kv∈kvs/\kv.1≠k):=by
 unfold putK at h
 split at h
 ·obtain ⟨p,hp,e⟩:=List.mem_map.mp h
  by_cases q:p.1=k
  ·rw [if_pos q] at e
   exact .inl (by rw [<-e,q])
  ·rw [if_neg q] at e
   subst e
   exact .inr ⟨hp,q⟩
 ·rename_i hn
  rcases List.mem_append.mp h with q | q
  ·refine .inr ⟨q,fun e=>hn ?_⟩
   exact List.any_eq_true.mpr ⟨kv,q,decide_eq_true e⟩
  ·exact .inl (List.mem_singleton.mp q)
theorem GoodD.put{kvs:List (Key×V)}{m:Nat}(h:GoodD kvs m){x:Str}{i:Int}(h1:1<=i)(h8:i<=8):GoodD (putK kvs (.inr x) (.int i)) (m+1):=by
 refine ⟨fun kv hkv=>?_,fun kv hkv=>?_,?_⟩
 ·rcases mem_putK hkv with e | ⟨e,_⟩
  ·exact ⟨x,i,e,h1,h8⟩
  ·exact h.1 kv e
 ·rw [valV_put]
  rcases mem_putK hkv with e | ⟨e,n⟩
  ·rw [e,if_pos rfl]
  ·rw [if_neg n];exact h.2.1 kv e
 ·have:=x_q kvs (.inr x:Key) (.int i:V)
  have:=h.2.2
  lia
theorem GoodD.kw{kvs:List (Key×V)}{m:Nat}(h:GoodD kvs m):∃ kv,KW kvs kv:=by
 have key:∀ x v,valV kvs (.inr x)=some v->∃ i,v=V.int i/\1<=i/\i<=8:=fun x v e=>by
  unfold valV at e
  obtain ⟨p,hp,e2⟩:=Option.map_eq_some_iff.mp e
  have hm:=List.mem_of_find?_eq_some hp
  obtain ⟨x',i,e3,b⟩:=h.1 p hm
  rw [e3] at e2
  exact ⟨i,e2.symm,b⟩
 refine ⟨fun x=>match valV kvs (.inr x) with | some (.int i)=>some i | _=>none,fun x=>?_,fun x w e=>?_⟩
 ·cases hv:valV kvs (.inr x) with
  | none=>dsimp only;rw [hv];rfl
  | some v=>obtain ⟨i,rfl,_⟩:=key x v hv;dsimp only;rw [hv];rfl
 ·dsimp only at e
  cases hv:valV kvs (.inr x) with
  | none=>rw [hv] at e;cases e
  | some v =>
   obtain ⟨i,rfl,b⟩:=key x v hv
   rw [hv] at e
   cases e
   exact b
theorem KeepT.dict{H:Hp}{p:Addr}{kvs:List (Key×V)}(h:H p=some (.dK kvs))(o:HO):KeepT H (upd H p o):=fun q ys e=>by
 have:q≠p:=fun z=>by rw [z,h] at e;cases e
 rw [z_j this]
 exact e
def sp_law(K:PySem.W.Frag):Sp:=fun vs H Q _=>∃ (a:Addr) (ns:List Int),vs=[.ref a]/\SqL K H a (ns.map V.int)/\ns.length<=63/\∀ H',Q (.bl true) H'
inductive Et:Str->List PyData->List Int->Int->Prop
 | not (a:Int):Et "not" [] [a] a
 | and (a:Int):Et "and" [] [a,a] a
 | or (a:Int):Et "or" [] [a,a] a
 | odd (a:Int):Et "odd" [] [a,a] a
 | sum (a:Int):Et "sum" [] [a,a] a
 | less (a:Int):Et "less" [] [a,a] a
 | under (a:Int):Et "under" [] [a,a] 1
 | same (a:Int):Et "same" [] [a,a] 1
 | choice (a:Int):Et "choice" [] [1,a,a] a
 | up (k a:Int) (h0:0<=k) (h1:k<=50):Et "up" [.int k] [a] a
 | down (k a:Int) (h0:0<=k) (h1:k<=50):Et "down" [.int k] [a] a
 | join (a b:Int) (h:a+b<=8):Et "join" [] [a,b] (a+b)
 | cut (f w a:Int) (h0:0<=f) (h1:0<=w) (h:f+w<=a):Et "cut" [.int f,.int w] [a] w
 | table (w a:Int) (ns:List Int) (h4:a<=4) (hl:(ns.length:Int)=2^a.toNat) (hn:∀ n∈ns,Rng w.toNat n):Et "table" [.int w,.tuple (ns.map PyData.int)] [a] w
def Tp(kv:Str->Option Int):Nat->PyData->Int->Prop
 | 0,_,_=>False
 | n+1,d,w=>(1<=w/\w<=8)/\((∃ x:Str,d = .tuple [.str "wire",.str x]/\kv x=some w)\/(∃ i:Int,d = .tuple [.str "number",.int i,.int w]/\Rng w.toNat i) \/
  ∃ (z:Str) (hd subs:List PyData) (ws:List Int),d = .tuple (.str z::(hd++subs))/\Et z hd ws w/\subs.length=ws.length/\(∀ a∈ws,1<=a/\a<=8)/\∀ (i:Nat) (s:PyData),subs[i]? = some s->∃ a:Int,ws[i]? = some a/\Tp kv n s a)
theorem Tp.up{kv:Str->Option Int}{n m:Nat}{d:PyData}{w:Int}(h:Tp kv n d w)(l:n<=m):Tp kv m d w:=by
 induction n generalizing m d w with
 | zero=>exact h.elim
 | succ n ih =>
  cases m with
  | zero=>lia
  | succ m =>
   obtain ⟨hw,h⟩:=h
   refine ⟨hw,?_⟩
   rcases h with h | h | ⟨z,hd,subs,ws,e,ev,hl,hb,hs⟩
   ·exact .inl h
   ·exact .inr (.inl h)
   ·refine .inr (.inr ⟨z,hd,subs,ws,e,ev,hl,hb,fun i s hi=>?_⟩)
    obtain ⟨a,h1,h3⟩:=hs i s hi
    exact ⟨a,h1,ih h3 (by lia)⟩
theorem Et.noL{z:Str}{hd:List PyData}{ws:List Int}{w:Int}(h:Et z hd ws w):noLs hd=true:=by
 cases h<;>first | rfl | (simp only [noLs,L2.noL,Bool.and_true,Bool.true_and];exact noLs_ints _)
theorem Tp.noL{kv:Str->Option Int}{n:Nat}{d:PyData}{w:Int}(h:Tp kv n d w):noL d=true:=by
 induction n generalizing d w with
 | zero=>exact h.elim
 | succ n ih =>
  obtain ⟨hw,h⟩:=h
  rcases h with ⟨x,rfl,_⟩ | ⟨i,rfl,_⟩ | ⟨z,hd,subs,ws,rfl,ev,hl,hb,hs⟩
  ·simp [L2.noL,noLs]
  ·simp [L2.noL,noLs]
  ·simp only [L2.noL,noLs,Bool.true_and,noLs_app,ev.noL]
   exact z_u fun d hd'=>by
    obtain ⟨i,hi,ei⟩:=List.getElem_of_mem hd'
    obtain ⟨a,_,ht⟩:=hs i d (by rw [List.getElem?_eq_getElem hi,ei])
    exact ih ht
inductive Wt (w:Int):Str->List Int->Prop
 | choice:Wt w "choice" [1,w,w]
 | under (a:Int) (h1:1<=a) (h8:a<=8) (hw:w=1):Wt w "under" [a,a]
 | same (a:Int) (h1:1<=a) (h8:a<=8) (hw:w=1):Wt w "same" [a,a]
 | join (a:Int) (h1:1<=a) (h8:a<w):Wt w "join" [a,w-a]
 | cut (a:Int) (h1:w<=a) (h8:a<=8):Wt w "cut" [a]
 | table (a:Int) (h1:1<=a) (h4:a<=4):Wt w "table" [a]
 | not:Wt w "not" [w]
 | up:Wt w "up" [w]
 | down:Wt w "down" [w]
 | and:Wt w "and" [w,w]
 | or:Wt w "or" [w,w]
 | odd:Wt w "odd" [w,w]
 | sum:Wt w "sum" [w,w]
 | less:Wt w "less" [w,w]
theorem Wt.bound{w:Int}{z:Str}{ws:List Int}(h:Wt w z ws)(hw:1<=w/\w<=8):(∀ a∈ws,1<=a/\a<=8)/\ws.length=wantN z:=by
 cases h<;>(refine ⟨fun b hb=>?_,rfl⟩;simp only [List.mem_cons,List.not_mem_nil,or_false] at hb;lia)
theorem Wt.et{w:Int}{z:Str}{ws:List Int}(h:Wt w z ws)(hw:1<=w/\w<=8)(h1:z ≠ "cut")(h2:z ≠ "table")(h3:z ≠ "up")(h4:z ≠ "down"):Et z [] ws w:=by
 cases h with
 | choice=>exact .choice w
 | under a _ _ e=>subst e;exact .under a
 | same a _ _ e=>subst e;exact .same a
 | join a _ _ =>
  have:=Et.join a (w-a) (by lia)
  rw [show a+(w-a)=w by lia] at this
  exact this
 | cut=>exact absurd rfl h1
 | table=>exact absurd rfl h2
 | not=>exact .not w
 | up=>exact absurd rfl h3
 | down=>exact absurd rfl h4
 | and=>exact .and w
 | or=>exact .or w
 | odd=>exact .odd w
 | sum=>exact .sum w
 | less=>exact .less w
def word13:List Str:=["not", "and", "or", "odd", "sum", "less", "up", "down", "cut", "table", "choice", "", ""]
def wordsW(w:Int):List Str:=word13++(if w=1 then (["under", "same"]:List Str) else ["join"])
def OkW(w:Int)(z:Str):Prop:=z∈(["not", "and", "or", "odd", "sum", "less", "up", "down", "cut", "table", "choice"]:List Str)\/((z = "under" \/ z = "same")/\w=1)\/(z = "join" /\ w≠1)
theorem wordsW_in{w:Int}{z:Str}(h:z∈wordsW w)(h0:z ≠ ""):OkW w z:=by
 unfold wordsW at h
 rcases List.mem_append.mp h with h | h
 ·left
  simp only [word13,List.mem_cons,List.not_mem_nil,or_false] at h ⊢
  rcases h with h | h | h | h | h | h | h | h | h | h | h | h | h<;>first | exact absurd h h0 | simp [h]
 ·by_cases hw:w=1
  ·rw [if_pos hw] at h
   simp only [List.mem_cons,List.not_mem_nil,or_false] at h
   exact .inr (.inl ⟨h,hw⟩)
  ·rw [if_neg hw] at h
   exact .inr (.inr ⟨List.mem_singleton.mp h,hw⟩)
def manyKV:List (Key×V):=[(.inr "choice",.int 3),(.inr "not",.int 1),(.inr "up",.int 1),(.inr "down",.int 1),(.inr "cut",.int 1),(.inr "table",.int 1)]
theorem many_val(z:Str):(valV manyKV (.inr z)).getD (.int 2) = .int ((wantN z:Nat):Int):=by
 unfold wantN
 by_cases h1:z = "choice"
 ·subst h1;rfl
 by_cases h2:z = "not"
 ·subst h2;rfl
 by_cases h3:z = "up"
 ·subst h3;rfl
 by_cases h4:z = "down"
 ·subst h4;rfl
 by_cases h5:z = "cut"
 ·subst h5;rfl
 by_cases h6:z = "table"
 ·subst h6;rfl
 rw [if_neg h1,if_neg (by simp [h2,h3,h4,h5,h6])]
 have e:valV manyKV (.inr z)=none:=by
  unfold valV manyKV
  have n:∀ y:Str,z≠y->¬((Sum.inr y:Key)=Sum.inr z):=fun y h e=>h (Sum.inr.inj e).symm
  simp [n _ h1,n _ h2,n _ h3,n _ h4,n _ h5,n _ h6,Ne.symm h1,Ne.symm h2,Ne.symm h3,Ne.symm h4,Ne.symm h5,Ne.symm h6]
 rw [e]
 rfl
theorem bgFree{l p:Addr}{H H1:Hp}(g:Bg l H H1)(hp:H1 p=none):p≠l/\H p=none:=by
 have npl:p≠l:=g.2.ne hp
 refine ⟨npl,?_⟩
 cases hh:H p with
 | none=>rfl
 | some o=>rw [g.1 p o npl hh] at hp;cases hp
def sp_L_wants:Sp:=fun vs H Q _=>∃ (l:Addr) (z:Str) (w:Int),vs=[.ref l,.str z,.int w]/\Bag H l/\1<=w/\w<=8/\OkW w z/\∀ p (ws:List Int) H',H p=none->p≠l->Bg l H H'->H' p=some (.lst (ws.map V.int))->Wt w z ws->Q (.ref p) H'
def Ren(a:Str):Nat->PyData->PyData->Prop
 | 0,_,_=>False
 | n+1,d,d'=>(∃ x:Str,d = .tuple [.str "wire",.str x]/\d' = .tuple [.str "wire",.str (a++x)]/\(a++x).length<=100000) \/
  ∃ (z:Str) (hd subs subs':List PyData),z∈words/\z ≠ "wire" /\ formK z=hd.length+1/\hd.length<=2/\subs.length<=3/\d = .tuple (.str z::(hd++subs))/\d' = .tuple (.str z::(hd++subs'))/\Paired (Ren a n) subs subs'
def sp_ren(n:Nat):Sp:=fun vs H Q _=>∃ (d d':PyData) (v:V) (a:Str),vs=[v,.str a]/\Dat H d v/\Ren a n d d'/\∀ v' H',Same H H'->Dat H' d' v'->Q v' H'
def letters:Str := "bfghjkmpqvxyzacdeilnorst"
def words16:List Str:=["not", "and", "or", "odd", "sum", "less", "under", "same", "choice", "up", "down", "join", "cut", "table", "wire", "number"]
def nmK(a b:Str)(k:Nat):Str:=a++⟨#[letters.cps.toList.getD k 0]⟩++b
def nmQ(a b:Str)(k:Nat):Str:=nmK a b k++(if nmK a b k∈words16 then "q" else "")
theorem cps_app(a b:Str):(a++b).cps.toList=a.cps.toList++b.cps.toList:=by
 show (a.cps++b.cps).toList=_
 rw [Array.toList_append]
theorem letters_inj:∀ j k,j<24->k<24->letters.cps.toList.getD j 0=letters.cps.toList.getD k 0->j=k:=by
 have h:letters.cps.toList.Nodup:=by decide +kernel
 have hl:letters.cps.toList.length=24:=by decide +kernel
 intro j k hj hk e
 rw [List.getD_eq_getElem?_getD,List.getD_eq_getElem?_getD,List.getElem?_eq_getElem (by lia),List.getElem?_eq_getElem (by lia)] at e
 have pw:=List.pairwise_iff_getElem.mp h
 rcases Nat.lt_trichotomy j k with lt | eq | gt
 ·exact absurd e (pw j k (by lia) (by lia) lt)
 ·exact eq
 ·exact absurd e.symm (pw k j (by lia) (by lia) gt)
theorem nmK_len(a b:Str)(k:Nat):(nmK a b k).length=a.length+1+b.length:=by
 unfold nmK
 rw [Str.length_append,Str.length_append]
 rfl
theorem nmK_inj{a b:Str}{j k:Nat}(hj:j<24)(hk:k<24)(e:nmK a b j=nmK a b k):j=k:=by
 unfold nmK at e
 have h:=congrArg (fun z:Str=>z.cps.toList) e
 simp only [cps_app] at h
 have h1:=List.append_cancel_right h
 have h2:=List.append_cancel_left h1
 injection h2 with h3
 exact letters_inj j k hj hk h3
theorem nmQ_inj{a b:Str}{j k:Nat}(hj:j<24)(hk:k<24)(e:nmQ a b j=nmQ a b k):j=k:=by
 have hl:(nmQ a b j).length=(nmQ a b k).length:=by rw [e]
 unfold nmQ at e hl
 rw [Str.length_append,Str.length_append,nmK_len,nmK_len] at hl
 have q1:("q" : Str).length=1:=rfl
 have q0:("" : Str).length=0:=rfl
 have h:=congrArg (fun z:Str=>z.cps.toList) e
 by_cases cj:nmK a b j∈words16
 ·by_cases ck:nmK a b k∈words16
  ·rw [if_pos cj,if_pos ck] at h
   simp only [cps_app] at h
   refine nmK_inj (a:=a) (b:=b) hj hk ?_
   have h2:=List.append_cancel_right h
   generalize nmK a b j=x at h2
   generalize nmK a b k=y at h2
   obtain ⟨⟨x⟩⟩:=x
   obtain ⟨⟨y⟩⟩:=y
   simpa using h2
  ·rw [if_pos cj,if_neg ck] at hl
   lia
 ·by_cases ck:nmK a b k∈words16
  ·rw [if_neg cj,if_pos ck] at hl
   lia
  ·rw [if_neg cj,if_neg ck] at h
   simp only [cps_app] at h
   refine nmK_inj (a:=a) (b:=b) hj hk ?_
   have h2:=List.append_cancel_right h
   generalize nmK a b j=x at h2
   generalize nmK a b k=y at h2
   obtain ⟨⟨x⟩⟩:=x
   obtain ⟨⟨y⟩⟩:=y
   simpa using h2
theorem names_nodup(a b:Str){m:Nat}(h:m<=24):((List.range m).map (nmQ a b)).Nodup:=by
 refine List.pairwise_map.mpr (List.Pairwise.imp_of_mem ?_ List.pairwise_lt_range)
 intro x y hx hy lt e
 rw [List.mem_range] at hx hy
 have:=nmQ_inj (a:=a) (b:=b) (by lia) (by lia) e
 lia
theorem nmQ_len(a b:Str)(k:Nat):(nmQ a b k).length<=a.length+b.length+2:=by
 unfold nmQ
 rw [Str.length_append,nmK_len]
 have q1:("q" : Str).length=1:=rfl
 have q0:("" : Str).length=0:=rfl
 split<;>lia
theorem ok_app{a b:Str}(ha:PyData.strOk a=true)(hb:PyData.strOk b=true):PyData.strOk (a++b)=true:=by
 unfold PyData.strOk at *
 show (a.cps++b.cps).all _=true
 rw [Array.all_append,ha,hb]
 rfl
theorem ok_join:∀ {us:List Str},(∀ u∈us,PyData.strOk u=true)->PyData.strOk (Txt.join "" us)=true:=by
 intro us h
 rw [show Txt.join "" us=Str.join "" us from StrLaws.glued_eq_join "" us]
 induction us with
 | nil=>show PyData.strOk Str.empty=true;decide +kernel
 | cons a r ih =>
  cases r with
  | nil=>exact h a List.mem_cons_self
  | cons b r =>
   show PyData.strOk (a ++ "" ++ Str.join "" (b::r))=true
   exact ok_app (ok_app (h a List.mem_cons_self) (by decide +kernel)) (ih fun u hu=>h u (List.mem_cons_of_mem _ hu))
theorem ok_one{c:Nat}(h:c<0x110000):PyData.strOk ⟨#[c]⟩=true:=by
 unfold PyData.strOk
 simp [h]
theorem abc_ok:∀ c∈("abcdefghijklmnopqrstuvwxyz" : Str).cps.toList,c<0x110000:=by decide +kernel
theorem letters_ok(k:Nat):letters.cps.toList.getD k 0<0x110000:=by
 have h:∀ c∈letters.cps.toList,c<0x110000:=by decide +kernel
 rw [List.getD_eq_getElem?_getD]
 cases e:letters.cps.toList[k]? with
 | none=>decide
 | some c=>exact h c (List.mem_of_getElem? e)
theorem nmQ_ok{a b:Str}(ha:PyData.strOk a=true)(hb:PyData.strOk b=true)(k:Nat):PyData.strOk (nmQ a b k)=true:=by
 unfold nmQ nmK
 refine ok_app (ok_app (ok_app ha (ok_one (letters_ok k))) hb) ?_
 split<;>decide +kernel
theorem inV_strs(z:Str):∀ ws:List Str,inV (V.str z) (ws.map V.str)=decide (z∈ws)
 | []=>rfl
 | a::ws=>by
  have ih:=inV_strs z ws
  unfold inV at ih ⊢
  rw [List.map_cons,List.any_cons,ih]
  by_cases h:a=z
  ·subst h
   simp [eqV]
  ·have h':¬z=a:=fun e=>h e.symm
   simp [eqV,h,h']
theorem two_ad{α:Type}{l:List α}(h:l.length=2):∃ a b,l=[a,b]:=by
 obtain ⟨a,r,rfl⟩:=List.exists_cons_of_length_eq_add_one h
 obtain ⟨b,r,rfl⟩:=List.exists_cons_of_length_eq_add_one (Nat.succ.inj h)
 exact ⟨a,b,by rw [List.eq_nil_of_length_eq_zero (Nat.succ.inj (Nat.succ.inj h))]⟩
open PySem PySem.Spec PyProof.Rows
section
variable {prog:Program} {w:World}
structure Wkr(prog:Program)(w:World)(it l:Addr)(n:Nat)(P:Nat->Value->Prop)(St:Nat->Heap->Prop):Prop where
 obj:∀ i h,St i h->∃ o,h.get? it=some o/\∀ v,o.data ≠ .cell v
 keep:∀ i h h',St i h->(∀ o,h.get? it=some o->h'.get? it=some o)->(∀ o,h.get? l=some o->h'.get? l=some o)->St i h'
 item:∀ (A:Around) (E:Value->Shared->Prop) (s:Shared) (Q:Value->Shared->Prop) (i:Nat),i<n->St i s.heap->(∀ x h',P i x->St (i+1) h'->Heap.SameBut it s.heap h'->Q x { s with heap:=h' })->wpAny (model prog w) A (Builtin.SmallTypes.nextOf (.ref it)) Q E s
 stop:∀ (A:Around) (E:Value->Shared->Prop) (s:Shared) (Q:Value->Shared->Prop),A.handled=none->St n s.heap->(∀ h' e,Heap.ExtBut it s.heap h'->(∃ o,h'.get? e=some o/\o.cls = .type "StopIteration")->E (.ref e) { s with heap:=h' })->wpAny (model prog w) A (Builtin.SmallTypes.nextOf (.ref it)) Q E s
theorem wkr_tup(it t:Addr)(hne:t≠it)(vs:Array Value):Wkr prog w it t vs.size (fun i v=>vs[i]? = some v) (fun i h=>h.IsTupleIter it t i/\h.IsTuple t vs) where
 obj:=fun i h ⟨⟨o,ho,_,hd⟩,_⟩=>⟨o,ho,fun v q=>by rw [hd] at q;cases q⟩
 keep:=fun i h h' ⟨⟨o,ho,r⟩,⟨o2,ho2,r2⟩⟩ k1 k2=>⟨⟨o,k1 o ho,r⟩,⟨o2,k2 o2 ho2,r2⟩⟩
 item:=fun A E s Q i hi ⟨ci,ct⟩ q=>by
  have ct':=ct
  obtain ⟨o,ho,hc,hd⟩:=id ci
  obtain ⟨ot,hot,_,nt,hdt⟩:=ct
  have hx:vs[i]? = some vs[i]:=by simp [hi]
  unfold Builtin.SmallTypes.nextOf
  refine wpAny_bind (wpAny_callSpecial?_slot (name:=Str.ofString "__next__") ci.typeIs F.slot_tuple_iterator_next (wpAny_call_entry F.slot_tuple_iterator_next ci.typeIs F.entry_tuple_iterator_next ?_ (F.args_tuple_iterator_next_1 _)))
  change wpAny _ _ (field (.ref it) 0 >>= _) _ _ s
  refine wpAny_bind (wpAny_field ho hd (x:=Value.ref t) rfl ?_)
  change wpAny _ _ (if (Value.ref t == Value.none)=true then _ else _) _ _ s
  rw [if_neg (show ¬((Value.ref t == Value.none)=true) from fun y=>Bool.false_ne_true y)]
  change wpAny _ _ (field (.ref it) 1 >>= _) _ _ s
  refine wpAny_bind (wpAny_field ho hd (x:=Value.int i 0) rfl ?_)
  change wpAny _ _ (seqItems? (.ref t) >>= _) _ _ s
  refine wpAny_bind (wpAny_seqItems hot hdt ?_)
  simp only [hx,Int.toNat_natCast]
  refine wpAny_bind (wpAny_setField ho hd (by simp) (wpAny_pure ⟨vs[i],rfl,wpAny_pure (q _ _ hx ⟨?_,ct'.extBut (Heap.SameBut.update ..).extBut hne⟩ (Heap.SameBut.update ..))⟩))
  exact ⟨_,Heap.get?_update_self _ ho (Obj.isFreed_of_fields (Obj.data_mapFields hd _)),(Obj.cls_mapFields ..).trans hc,by rw [Obj.data_mapFields hd];simp [rawInt]⟩
 stop:=fun A E s Q hh ⟨ci,ct⟩ q=>by
  obtain ⟨o,ho,hc,hd⟩:=id ci
  obtain ⟨ot,hot,_,nt,hdt⟩:=ct
  have hx:vs[vs.size]? = none:=by simp
  unfold Builtin.SmallTypes.nextOf
  refine wpAny_bind (wpAny_callSpecial?_slot (name:=Str.ofString "__next__") ci.typeIs F.slot_tuple_iterator_next (wpAny_call_entry F.slot_tuple_iterator_next ci.typeIs F.entry_tuple_iterator_next ?_ (F.args_tuple_iterator_next_1 _)))
  change wpAny _ _ (field (.ref it) 0 >>= _) _ _ s
  refine wpAny_bind (wpAny_field ho hd (x:=Value.ref t) rfl ?_)
  change wpAny _ _ (if (Value.ref t == Value.none)=true then _ else _) _ _ s
  rw [if_neg (show ¬((Value.ref t == Value.none)=true) from fun y=>Bool.false_ne_true y)]
  change wpAny _ _ (field (.ref it) 1 >>= _) _ _ s
  refine wpAny_bind (wpAny_field ho hd (x:=Value.int vs.size 0) rfl ?_)
  change wpAny _ _ (seqItems? (.ref t) >>= _) _ _ s
  refine wpAny_bind (wpAny_seqItems hot hdt ?_)
  simp only [hx,Int.toNat_natCast]
  refine wpAny_bind (wpAny_rule (wpAny_bind (wpAny_setField ho hd (by simp) ?_)))
  change wpAny _ _ (newExc (.type "StopIteration") [] >>= _) _ _ _
  refine wpAny_bind ?_
  simp only [newTuple,newExc]
  refine wpAny_bind (wpAny_newObj_type ?_ (by size_fits))
  refine wpAny_bind (m:=firstArgMember _ _) (wpAny_of_eq (a:=Value.none) (by first | rfl | (simp only [firstArgMember];rfl)) (wpAny_newObj_type ?_ (by size_fits)))
  simp only [raiseNew]
  refine wpAny_bind (wpAny_handled ?_)
  first | rw [show A.in1.handled=none from hh] | rw [hh]
  exact wpAny_bind (wpAny_pure (wpAny_throw (q _ _ (((Heap.SameBut.update ..).extBut.push _).push _) ⟨_,Heap.get?_push_size _ rfl,rfl⟩)))
theorem zipw_item{A:Around}{E:Value->Shared->Prop}{s:Shared}{z TI TO i1 i2 l1 l2:Addr}{n1 n2 k:Nat}{P1 P2:Nat->Value->Prop}{S1 S2:Nat->Heap->Prop}{a b:Value}{Q:Value->Shared->Prop}(D:ZipApart z TI TO i1 i2 l1 l2)
  (W1:Wkr prog w i1 l1 n1 P1 S1) (W2:Wkr prog w i2 l2 n2 P2 S2) (zz:IsZip s.heap z TI TO .none) (zi:IsPair s.heap TI (.ref i1) (.ref i2)) (zo:IsPair s.heap TO a b)
  (c1:S1 k s.heap) (c2:S2 k s.heap) (lt1:k<n1) (lt2:k<n2)
  (q:∀ x y h',P1 k x->P2 k y->IsZip h' z TI TO (rawInt s.heap.objs.size)->IsPair h' TO x y->S1 (k+1) h'->S2 (k+1) h'->IsPair h' s.heap.objs.size x y->(∀ c o,c∉[z,TO,i1,i2]->s.heap.get? c=some o->h'.get? c=some o)->Q (.ref s.heap.objs.size) { s with heap:=h' }) :
  wpAny (model prog w) A (Builtin.«zip.__next__» ⟨[.ref z],[]⟩) (fun fin s'=>∃ v,fin = .done (.ret v)/\Q v s') E s:=by
 change wpAny _ _ (field (.ref z) 2 >>= _) _ _ _
 refine wpAny_bind (wpAny_field zz rfl (x:=.bool false) rfl ?_)
 change wpAny _ _ (field (.ref z) 3 >>= _) _ _ _
 refine wpAny_bind (wpAny_field zz rfl (x:=.ref TI) rfl ?_)
 refine wpAny_bind (wpAny_seqItems zi rfl ?_)
 change wpAny _ _ (Builtin.SmallTypes.ownedTupleIsFree (.ref z) >>= _) _ _ _
 refine wpAny_bind ?_
 unfold Builtin.SmallTypes.ownedTupleIsFree;refine wpAny_bind (wpAny_field zz rfl (x:=.none) rfl (wpAny_pure ?_))
 simp only [if_true]
 refine wpAny_bind (wpAny_rule ?_)
 refine wpAny_bind (wpAny_field zz rfl (x:=.ref TO) rfl ?_)
 refine wpAny_bind (wpAny_setField_rec zz (by simp) fun g1 zz1 t1=>?_)
 replace zz1:IsZip g1 z TI TO .ellipsis:=zz1
 refine wpAny_bind ?_
 simp only [List.forIn_cons,List.forIn_nil,List.zipIdx_cons,List.zipIdx_nil]
 refine wpAny_bind (wpAny_bind (wpAny_onRaise ?_))
 change wpAny _ _ (Builtin.SmallTypes.nextOf (.ref i1) >>= _) _ _ _
 have up1:∀ c o,c≠z->s.heap.get? c=some o->g1.get? c=some o:=fun c o hc e=>t1.extBut _ _ hc e
 refine wpAny_bind (W1.item _ _ _ _ k lt1 (W1.keep _ _ _ c1 (fun o e=>up1 _ o D.i1z e) fun o e=>up1 _ o D.l1z e) fun x g2 px d1 t2=>wpAny_pure ?_)
 have up2:∀ c o,c≠z->c≠i1->s.heap.get? c=some o->g2.get? c=some o:=fun c o h1 h2 e=>t2.extBut _ _ h2 (up1 c o h1 e)
 have zo2:IsPair g2 TO a b:=up2 _ _ D.TOz D.TOi1 zo
 refine wpAny_bind (wpAny_seqItems zo2 rfl ?_)
 refine wpAny_bind (wpAny_updateSeq_pair zo2 fun g3 zo3 t3=>?_)
 replace zo3:IsPair g3 TO x b:=zo3
 refine wpAny_bind (wpAny_letGo (wpAny_pure ?_));refine wpAny_bind (wpAny_bind (wpAny_onRaise ?_))
 change wpAny _ _ (Builtin.SmallTypes.nextOf (.ref i2) >>= _) _ _ _
 have up3:∀ c o,c≠z->c≠i1->c≠TO->s.heap.get? c=some o->g3.get? c=some o:=fun c o h1 h2 h3 e=>t3.extBut _ _ h3 (up2 c o h1 h2 e)
 refine wpAny_bind (W2.item _ _ _ _ k lt2 (W2.keep _ _ _ c2 (fun o e=>up3 _ o D.i2z D.i12.symm D.TOi2.symm e) fun o e=>up3 _ o D.l2z D.l2i1 D.l2TO e) fun y g4 py d2 t4=>wpAny_pure ?_)
 have zo4:IsPair g4 TO x b:=t4.extBut _ _ D.TOi2 zo3
 refine wpAny_bind (wpAny_seqItems zo4 rfl ?_)
 refine wpAny_bind (wpAny_updateSeq_pair zo4 fun g5 zo5 t5=>?_)
 replace zo5:IsPair g5 TO x y:=zo5
 refine wpAny_bind (wpAny_letGo (wpAny_pure (wpAny_pure ?_)));refine wpAny_bind (wpAny_seqItems zo5 rfl ?_)
 refine wpAny_bind (wpAny_newTuple ?_)
 have sz:g5.objs.size=s.heap.objs.size:=by rw [t5.1,t4.1,t3.1,t2.1,t1.1]
 have zz5:IsZip g5 z TI TO .ellipsis:=t5.extBut _ _ D.TOz.symm (t4.extBut _ _ D.i2z.symm (t3.extBut _ _ D.TOz.symm (t2.extBut _ _ D.i1z.symm zz1)))
 have up5:∀ c o,c∉[z,TO,i1,i2]->s.heap.get? c=some o->g5.get? c=some o:=fun c o hc e=>by
  simp only [List.mem_cons,List.not_mem_nil,or_false,not_or] at hc
  exact t5.extBut _ _ hc.2.1 (t4.extBut _ _ hc.2.2.2 (up3 c o hc.1 hc.2.2.1 hc.2.1 e))
 have d15:S1 (k+1) g5:=W1.keep _ _ _ d1 (fun o e=>t5.extBut _ _ D.TOi1.symm (t4.extBut _ _ D.i12 (t3.extBut _ _ D.TOi1.symm e))) fun o e=>t5.extBut _ _ D.l1TO (t4.extBut _ _ D.l1i2 (t3.extBut _ _ D.l1TO e))
 have d25:S2 (k+1) g5:=W2.keep _ _ _ d2 (fun o e=>t5.extBut _ _ D.TOi2.symm e) fun o e=>t5.extBut _ _ D.l2TO e
 have zlt:z<g5.objs.size:=Heap.lt_size zz5
 change wpAny _ _ (Builtin.SmallTypes.ownedTupleHandOut (.ref z) (.ref g5.objs.size) >>= _) _ _ _
 refine wpAny_bind ?_
 unfold Builtin.SmallTypes.ownedTupleHandOut;have zz6:IsZip (g5.push { cls:=.type "tuple",data:=.seq #[x,y] }) z TI TO .ellipsis:=Heap.get?_push_of_some _ zz5
 refine wpAny_bind (wpAny_setField_rec zz6 (by simp) fun g7 zz7 t7=>?_)
 replace zz7:IsZip g7 z TI TO (rawInt g5.objs.size):=zz7
 refine wpAny_setField_rec zz7 (by simp) fun g8 zz8 t8=>?_
 replace zz8:IsZip g8 z TI TO (rawInt g5.objs.size):=zz8
 have up:∀ c o,c≠z->g5.get? c=some o->g8.get? c=some o:=fun c o hc e=>t8.extBut _ _ hc (t7.extBut _ _ hc (Heap.get?_push_of_some _ e))
 have pr8:IsPair g8 g5.objs.size x y:=t8.extBut _ _ (Nat.ne_of_gt zlt) (t7.extBut _ _ (Nat.ne_of_gt zlt) (Heap.get?_push_size _ rfl))
 rw [sz] at zz8 pr8
 refine wpAny_pure ⟨_,rfl,?_⟩
 change Q (.ref g5.objs.size) _
 rw [sz]
 exact q x y g8 px py zz8 (up _ _ D.TOz zo5) (W1.keep _ _ _ d15 (fun o e=>up _ o D.i1z e) fun o e=>up _ o D.l1z e) (W2.keep _ _ _ d25 (fun o e=>up _ o D.i2z e) fun o e=>up _ o D.l2z e) pr8 fun c o hc e=>up c o (fun h=>hc (by simp [h])) (up5 c o hc e)
theorem zipw_end{A:Around}{E:Value->Shared->Prop}{s:Shared}{z TI TO i1 i2 l1 l2:Addr}{n1:Nat}{P1:Nat->Value->Prop}{S1:Nat->Heap->Prop}{Q:Fin->Shared->Prop}(hh:A.handled=none)(D:ZipApart z TI TO i1 i2 l1 l2)
  (W1:Wkr prog w i1 l1 n1 P1 S1) (zz:IsZip s.heap z TI TO .none) (zi:IsPair s.heap TI (.ref i1) (.ref i2)) (c1:S1 n1 s.heap)
  (q:∀ h' e,(∀ c o,c∉[z,TO,i1,i2]->s.heap.get? c=some o->h'.get? c=some o)->(∃ o,h'.get? e=some o/\o.cls = .type "StopIteration")->E (.ref e) { s with heap:=h' }) :
  wpAny (model prog w) A (Builtin.«zip.__next__» ⟨[.ref z],[]⟩) Q E s:=by
 change wpAny _ _ (field (.ref z) 2 >>= _) _ _ _
 refine wpAny_bind (wpAny_field zz rfl (x:=.bool false) rfl ?_)
 change wpAny _ _ (field (.ref z) 3 >>= _) _ _ _
 refine wpAny_bind (wpAny_field zz rfl (x:=.ref TI) rfl ?_)
 refine wpAny_bind (wpAny_seqItems zi rfl ?_)
 change wpAny _ _ (Builtin.SmallTypes.ownedTupleIsFree (.ref z) >>= _) _ _ _
 refine wpAny_bind ?_
 unfold Builtin.SmallTypes.ownedTupleIsFree;refine wpAny_bind (wpAny_field zz rfl (x:=.none) rfl (wpAny_pure ?_))
 simp only [if_true]
 refine wpAny_bind (wpAny_rule ?_)
 refine wpAny_bind (wpAny_field zz rfl (x:=.ref TO) rfl ?_)
 refine wpAny_bind (wpAny_setField_rec zz (by simp) fun g1 zz1 t1=>?_)
 replace zz1:IsZip g1 z TI TO .ellipsis:=zz1
 refine wpAny_bind ?_
 simp only [List.forIn_cons,List.forIn_nil,List.zipIdx_cons,List.zipIdx_nil]
 refine wpAny_bind (wpAny_bind (wpAny_onRaise ?_))
 change wpAny _ _ (Builtin.SmallTypes.nextOf (.ref i1) >>= _) _ _ _
 have up1:∀ c o,c≠z->s.heap.get? c=some o->g1.get? c=some o:=fun c o hc e=>t1.extBut _ _ hc e
 refine wpAny_bind (W1.stop _ _ _ _ hh (W1.keep _ _ _ c1 (fun o e=>up1 _ o D.i1z e) fun o e=>up1 _ o D.l1z e) fun g2 e t2 ⟨oe,e1,e2⟩=>?_)
 have zz2:IsZip g2 z TI TO .ellipsis:=t2 _ _ D.i1z.symm zz1
 have ez:e≠z:=fun x=>by subst x;rw [zz2] at e1;cases e1;simp at e2
 refine wpAny_setField_rec zz2 (by simp) fun g3 _ t3=>q g3 e (fun c o hc x=>?_) ⟨oe,t3.extBut _ _ ez e1,e2⟩
 simp only [List.mem_cons,List.not_mem_nil,or_false,not_or] at hc
 exact t3.extBut _ _ hc.1 (t2 _ _ hc.2.2.1 (up1 c o hc.1 x))
def zt1(h:Heap)(l1:Addr):Heap:=h.push { cls:=.type "tuple_iterator",data:=.fields #[.ref l1,.int 0 0] }
def zt2(h:Heap)(l1 l2:Addr):Heap:=(zt1 h l1).push { cls:=.type "tuple_iterator",data:=.fields #[.ref l2,.int 0 0] }
def zt3(h:Heap)(l1 l2:Addr):Heap:=(zt2 h l1 l2).push { cls:=.type "tuple",data:=.seq #[.ref h.objs.size,.ref (zt1 h l1).objs.size] }
def zt4(h:Heap)(l1 l2:Addr):Heap:=(zt3 h l1 l2).push { cls:=.type "tuple",data:=.seq #[.none,.none] }
def zt5(h:Heap)(l1 l2:Addr):Heap:=(zt4 h l1 l2).push { cls:=.type "zip",data:=.fields #[.none,.bool false,.bool false,.ref (zt2 h l1 l2).objs.size,.ref (zt3 h l1 l2).objs.size] }
theorem zipt_new(l1 l2:Addr)(xs ys:Array Value):Meets (Builtin.«zip.__new__» ⟨[.type "zip",.ref l1,.ref l2],[]⟩) (fun _ R s=>s.heap.IsTuple l1 xs/\s.heap.IsTuple l2 ys/\R (.ok (.ret (.ref (zt4 s.heap l1 l2).objs.size))) { s with heap:=zt5 s.heap l1 l2 }) :=
 .of_wp fun prog w A R s ⟨c1,c2,q⟩=>by
  obtain ⟨hp,g,d,tk,os⟩:=s
  have hsub:=sub_zip
  have d1:Heap.IsTuple (Shared.heap ⟨hp,g,d,tk,os⟩) l1 xs:=c1
  have d2:Heap.IsTuple (Shared.heap ⟨zt1 hp l1,g,d,tk,os⟩) l2 ys:=Heap.IsTuple.push c2 _
  unfold zt5 zt4 zt3 zt2 zt1 at q
  unfold zt1 at d2
  wp_walk using wpAny_pyIter_tuple d1,wpAny_pyIter_tuple d2
  exact ⟨_,rfl,q⟩
theorem zipt_call{A:Around}{E:Value->Shared->Prop}{s:Shared}{l1 l2:Addr}{xs ys:Array Value}{Q:Value->Shared->Prop}(c1:s.heap.IsTuple l1 xs)(c2:s.heap.IsTuple l2 ys)
  (q:∀ h',IsZip h' (s.heap.objs.size+4) (s.heap.objs.size+2) (s.heap.objs.size+3) .none->IsPair h' (s.heap.objs.size+2) (.ref s.heap.objs.size) (.ref (s.heap.objs.size+1))->IsPair h' (s.heap.objs.size+3) .none .none ->
   h'.IsTupleIter s.heap.objs.size l1 0->h'.IsTupleIter (s.heap.objs.size+1) l2 0->(∀ c o,s.heap.get? c=some o->h'.get? c=some o)->Q (.ref (s.heap.objs.size+4)) { s with heap:=h' }):wpAny (model prog w) A (call (.type "zip") [.ref l1,.ref l2]) Q E s:=by
 refine callType_new F.called_zip (by decide) (F.typeCall_zip_2 _ _) (F.newCall_zip_2 _ _) (fun obj=>F.args_object_init_3 obj _ _) F.entry_zip_new (zipt_new l1 l2 xs ys) ⟨c1,c2,?_⟩
 have e1:(zt1 s.heap l1).objs.size=s.heap.objs.size+1:=Heap.size_push ..
 have e2:(zt2 s.heap l1 l2).objs.size=s.heap.objs.size+2:=by unfold zt2;rw [Heap.size_push,e1]
 have e3:(zt3 s.heap l1 l2).objs.size=s.heap.objs.size+3:=by unfold zt3;rw [Heap.size_push,e2]
 have e4:(zt4 s.heap l1 l2).objs.size=s.heap.objs.size+4:=by unfold zt4;rw [Heap.size_push,e3]
 have g5:(zt5 s.heap l1 l2).get? (zt4 s.heap l1 l2).objs.size=some { cls:=.type "zip",data:=.fields #[.none,.bool false,.bool false,.ref (zt2 s.heap l1 l2).objs.size,.ref (zt3 s.heap l1 l2).objs.size] }:=Heap.get?_push_size _ rfl
 have g4:(zt5 s.heap l1 l2).get? (zt3 s.heap l1 l2).objs.size=some { cls:=.type "tuple",data:=.seq #[.none,.none] }:=Heap.get?_push_of_some _ (Heap.get?_push_size _ rfl)
 have g3:(zt5 s.heap l1 l2).get? (zt2 s.heap l1 l2).objs.size=some { cls:=.type "tuple",data:=.seq #[.ref s.heap.objs.size,.ref (zt1 s.heap l1).objs.size] }:=Heap.get?_push_of_some _ (Heap.get?_push_of_some _ (Heap.get?_push_size _ rfl))
 have g2:(zt5 s.heap l1 l2).get? (zt1 s.heap l1).objs.size=some { cls:=.type "tuple_iterator",data:=.fields #[.ref l2,.int 0 0] }:=Heap.get?_push_of_some _ (Heap.get?_push_of_some _ (Heap.get?_push_of_some _ (Heap.get?_push_size _ rfl)))
 have g1:(zt5 s.heap l1 l2).get? s.heap.objs.size=some { cls:=.type "tuple_iterator",data:=.fields #[.ref l1,.int 0 0] }:=Heap.get?_push_of_some _ (Heap.get?_push_of_some _ (Heap.get?_push_of_some _ (Heap.get?_push_of_some _ (Heap.get?_push_size _ rfl))))
 rw [e4,e3,e2] at g5
 rw [e3] at g4
 rw [e2,e1] at g3
 rw [e1] at g2
 have q':=q (zt5 s.heap l1 l2) g5 g3 g4 ⟨_,g1,rfl,rfl⟩ ⟨_,g2,rfl,rfl⟩ fun c o e=>Heap.get?_push_of_some _ (Heap.get?_push_of_some _ (Heap.get?_push_of_some _ (Heap.get?_push_of_some _ (Heap.get?_push_of_some _ e))))
 rw [e4]
 exact ⟨⟨_,g5,rfl⟩,q'⟩
end
def Itzt(K : PySem.W.Frag)(a b : Addr) : It :=
  ⟨fun i H => ∃ xs ys x y, SqT K H a xs /\ SqT K H b ys /\ xs.length = ys.length /\ xs[i]? = some x /\ ys[i]? = some y,
   fun i H v H' => ∃ p x y, v = .ref p /\ H p = none /\ H' = upd H p (.tup [x, y]) /\ (∀ xs, SqT K H a xs -> xs[i]? = some x) /\ ∀ ys, SqT K H b ys -> ys[i]? = some y,
   fun i H => ∃ xs ys, SqT K H a xs /\ SqT K H b ys /\ xs.length = i⟩
open PySem PySem.Spec PyProof.Rows
theorem turn_zipt{P:Program}{w:World}{K:PySem.W.Frag}{elts:List Expr}{kk:Nat}{pos:Pos}(a b z TI TO i1 i2:Addr)(D:ZipApart z TI TO i1 i2 a b) :
  Turn P w K (.Tuple elts kk pos) (Itzt K a b) [z,TI,TO,i1,i2] z (fun i h=>IsZip h z TI TO .none/\IsPair h TI (.ref i1) (.ref i2)/\(∃ c d,IsPair h TO c d)/\h.IsTupleIter i1 a i/\h.IsTupleIter i2 b i) where
 mem:=by simp
 obj:=fun i h st c hc=>by
  obtain ⟨h1,h2,⟨x,y,h3⟩,⟨o4,e4,c4,d4⟩,⟨o5,e5,c5,d5⟩⟩:=st
  have hc':c=z\/c=TI\/c=TO\/c=i1\/c=i2:=by simpa using hc
  rcases hc' with rfl | rfl | rfl | rfl | rfl
  ·exact ⟨_,h1,fun v q=>by cases q⟩
  ·exact ⟨_,h2,fun v q=>by cases q⟩
  ·exact ⟨_,h3,fun v q=>by cases q⟩
  ·exact ⟨o4,e4,fun v q=>by rw [d4] at q;cases q⟩
  ·exact ⟨o5,e5,fun v q=>by rw [d5] at q;cases q⟩
 keep:=fun i h h' st k=>by
  obtain ⟨h1,h2,⟨x,y,h3⟩,⟨o4,e4,r4⟩,⟨o5,e5,r5⟩⟩:=st
  exact ⟨k z (by simp) _ h1,k TI (by simp) _ h2,⟨x,y,k TO (by simp) _ h3⟩,⟨o4,k i1 (by simp) _ e4,r4⟩,⟨o5,k i2 (by simp) _ e5,r5⟩⟩
 item:=by
  intro X hP hw hK hc i pins s σ H E I hf st hg
  subst hP hw hK
  obtain ⟨xs,ys,x,y,hq1,hq2,hll,hx,hy⟩:=hg
  obtain ⟨its1,rv1,p1,hz1⟩:=I.tuple hq1
  obtain ⟨its2,rv2,p2,hz2⟩:=I.tuple hq2
  obtain ⟨u1,hu1,ru1⟩:=rv1.get hx
  obtain ⟨u2,hu2,ru2⟩:=rv2.get hy
  obtain ⟨sz,sTI,⟨c,d,sTO⟩,s1,s2⟩:=st
  have hT:s.TypeIs (.ref z) "zip" := ⟨_,sz,rfl⟩
  have W1:=wkr_tup (prog:=X.prog) (w:=X.w) i1 a D.l1i1 its1.toArray
  have W2:=wkr_tup (prog:=X.prog) (w:=X.w) i2 b D.l2i2 its2.toArray
  unfold pyNext;refine wpAny_bind (wpAny_attempt (wpAny_callSpecial?_slot (name:=Str.ofString "__next__") hT F.slot_zip_next (wpAny_call_entry F.slot_zip_next hT F.entry_zip_next (zipw_item D W1 W2 sz sTI sTO ⟨s1,p1⟩ ⟨s2,p2⟩ (by have:=(List.getElem?_eq_some_iff.mp hu1).1;simpa using this) (by have:=(List.getElem?_eq_some_iff.mp hu2).1;simpa using this) fun v1 v2 h' px py b1 b2 b3 b4 b5 hk=>wpAny_pure ?_) (F.args_zip_next_1 _))))
  obtain rfl:v1=u1:=by have px':its1[i]? = some v1:=(by simpa using px);rw [hu1] at px';exact (Option.some.inj px').symm
  obtain rfl:v2=u2:=by have py':its2[i]? = some v2:=(by simpa using py);rw [hu2] at py';exact (Option.some.inj py').symm
  have lt:∀ {c o},s.heap.get? c=some o->c≠s.heap.objs.size:=fun e=>Nat.ne_of_lt (Heap.lt_size e)
  have I0:Inv X pins σ (upd H s.heap.objs.size (.tup [x,y])) { s with heap:=s.heap.push { cls:=.type "tuple",data:=.seq #[v1,v2] },toks:=s.toks } :=
   I.laid (a:=s.heap.objs.size) (o:=.tup [x,y]) (t':=s.toks) (fun b u e=>Heap.get?_push_of_some _ e) (Nat.le_refl _) ⟨(by show 2<=sizeLine;decide),[v1,v2],.cons ru1 (.cons ru2 .nil),_,Heap.get?_push_size _ rfl,rfl,_,rfl⟩
  have hnone:∀ c∈[z,TI,TO,i1,i2],(upd H s.heap.objs.size (.tup [x,y])) c=none:=fun c hc'=>by
   have hne:c≠s.heap.objs.size:=by
    have hc'':c=z\/c=TI\/c=TO\/c=i1\/c=i2:=by simpa using hc'
    rcases hc'' with rfl | rfl | rfl | rfl | rfl
    ·exact lt sz
    ·exact lt sTI
    ·exact lt sTO
    ·obtain ⟨_,e,_⟩:=s1;exact lt e
    ·obtain ⟨_,e,_⟩:=s2;exact lt e
   rw [z_j hne]
   exact (hf c hc').1
  have hf':∀ c∈[z,TI,TO,i1,i2],FpOk X pins (upd H s.heap.objs.size (.tup [x,y])) c:=fun c hc'=>⟨hnone c hc',(hf c hc').2⟩
  have kk1:∀ c o,c∉[z,TO,i1,i2]->(s.heap.push { cls:=.type "tuple",data:=.seq #[v1,v2] }).get? c=some o->h'.get? c=some o:=fun c o hn e=>by
   rcases Heap.get?_push_cases e with ⟨rfl,rfl⟩ | e'
   ·exact b5
   ·exact hk c o hn e'
  have kk2:∀ c∈[z,TO,i1,i2],FpOk X pins (upd H s.heap.objs.size (.tup [x,y])) c:=fun c hc'=>hf' c (by
   have hc'':c=z\/c=TO\/c=i1\/c=i2:=by simpa using hc'
   rcases hc'' with rfl | rfl | rfl | rfl<;>simp)
  have I1:=I0.turnedL (h':=h') (t':=s.toks) (ch:=[z,TO,i1,i2]) kk1 kk2
  refine ⟨_,rfl,wpAny_letOwnedTupleGo_zip b1 fun h2 c1 c2=>?_⟩
  have I2:=I1.turnedL (h':=h2) (t':=s.toks) (ch:=[z]) (fun c o hn e=>(c2.2 c (fun q=>hn (by simp [q]))).trans e) (fun c hc'=>hf' c (by rw [List.mem_singleton.mp hc'];simp))
  refine ⟨.ref s.heap.objs.size,_,I2,rfl,⟨_,x,y,rfl,I.hok.fresh (Nat.le_refl _),rfl,fun xs' q=>by rw [I.tuple_inj q hq1];exact hx,fun ys' q=>by rw [I.tuple_inj q hq2];exact hy⟩,?_,hnone⟩
  have mv:∀ c o,c≠z->h'.get? c=some o->h2.get? c=some o:=fun c o hn e=>(c2.2 c hn).trans e
  obtain ⟨⟨o3,e3,r3⟩,_⟩:=b3
  obtain ⟨⟨o4,e4,r4⟩,_⟩:=b4
  exact ⟨c1,mv _ _ D.TIz (hk _ _ (by simp [D.TIz,D.TITO,D.TIi1,D.TIi2]) sTI),⟨_,_,mv _ _ D.TOz b2⟩,⟨o3,mv _ _ D.i1z e3,r3⟩,⟨o4,mv _ _ D.i2z e4,r4⟩⟩
 done:=by
  intro X hP hw hK hc i pins s σ H E I hf st hg
  subst hP hw hK
  obtain ⟨xs,ys,hq1,hq2,hx⟩:=hg
  obtain ⟨its1,rv1,p1,hz1⟩:=I.tuple hq1
  have l1:=rv1.length
  obtain ⟨sz,sTI,⟨c,d,sTO⟩,s1,s2⟩:=st
  have hT:s.TypeIs (.ref z) "zip" := ⟨_,sz,rfl⟩
  have W1:=wkr_tup (prog:=X.prog) (w:=X.w) i1 a D.l1i1 its1.toArray
  have ei:its1.toArray.size=i:=by simp;lia
  unfold pyNext;refine wpAny_bind (wpAny_attempt (wpAny_callSpecial?_slot (name:=Str.ofString "__next__") hT F.slot_zip_next (wpAny_call_entry F.slot_zip_next hT F.entry_zip_next (zipw_end (I.ok.hd hc) D W1 sz sTI (by rw [ei];exact ⟨s1,p1⟩) fun h' e hk ⟨oe,e1,e2⟩=>?_) (F.args_zip_next_1 _))))
  refine wpAny_bind (wpAny_isInstance (T := "StopIteration") (b:=true) ⟨oe,e1,e2⟩ isSubtype_stop (wpAny_pure ⟨rfl,I.turnedL (t':=s.toks) (ch:=[z,TO,i1,i2]) hk fun c hc'=>hf c ?_⟩))
  have hc'':c=z\/c=TO\/c=i1\/c=i2:=by simpa using hc'
  rcases hc'' with rfl | rfl | rfl | rfl<;>simp
 self:=fun _ _ _ _ _ st h=>wpAny_pyIter_zip st.1 h
def iZipt(K:PySem.W.Frag)(ta:TA):TI:=fun σ H R=>ta σ H fun vs H1=>∃ a b,vs=[.ref a,.ref b]/\(∃ xs,SqT K H1 a xs)/\(∃ ys,SqT K H1 b ys)/\R (Itzt K a b) H1
theorem pi_zipt{X:Cx}{elts:List Expr}{kk:Nat}{tpos:Pos}{a b:Expr}{ta:TA}{p pos:Pos}(hg:Gl X "zip")(hm:X.mg "zip" = none)(ha:PA X [a,b] ta)(hs:starEach [a,b] X.env=[(false,eval a X.env),(false,eval b X.env)]:=by rfl)(hs2:starEach [b] X.env=[(false,eval b X.env)]:=by rfl) :
  PI X (.Tuple elts kk tpos) (.Call (.Name "zip" p) [a,b] [] pos) (iZipt X.K ta):=by
 intro pins s σ H R I h
 refine Call_ (ld_blt I hg hm PyProof.Rows.boot_zip (PyProof.Rows.callWith_type1 (thn (ha pos pins s σ H _ I h) fun us s1 ⟨vs,H1,I1,r1,q1⟩=>?_) (by rw [hs,hs2]) (by rw [hs2];rfl)))
 obtain ⟨l1,l2,e,⟨xs,hq1⟩,⟨ys,hq2⟩,q⟩:=q1
 subst e
 cases r1 with
 | cons r rr =>
  cases rr with
  | cons r' rr =>
   cases rr
   cases r
   cases r'
   obtain ⟨its1,rv1,p1,hz1⟩:=I1.tuple hq1
   obtain ⟨its2,rv2,p2,hz2⟩:=I1.tuple hq2
   have hlt1 : @LT.lt Nat _ l1 s1.heap.objs.size:=by obtain ⟨o,e,_⟩:=p1;exact Heap.lt_size e
   have hlt2 : @LT.lt Nat _ l2 s1.heap.objs.size:=by obtain ⟨o,e,_⟩:=p2;exact Heap.lt_size e
   refine zipt_call p1 p2 fun h' hz hTI hTO hi1 hi2 hk=>wpAny_pyIter_zip hz ?_
   have D:ZipApart (s1.heap.objs.size+4) (s1.heap.objs.size+2) (s1.heap.objs.size+3) s1.heap.objs.size (s1.heap.objs.size+1) l1 l2:=PySem.W.ktu_apart _ _ _ hlt1 hlt2
   refine ⟨_,[s1.heap.objs.size+4,s1.heap.objs.size+2,s1.heap.objs.size+3,s1.heap.objs.size,s1.heap.objs.size+1],_,_,H1,rfl,I1.kept (t':=s1.toks) hk,turn_zipt l1 l2 _ _ _ _ _ D,⟨hz,hTI,⟨_,_,hTO⟩,hi1,hi2⟩,fun c hc=>?_,q⟩
   have hc':c=s1.heap.objs.size+4\/c=s1.heap.objs.size+2\/c=s1.heap.objs.size+3\/c=s1.heap.objs.size\/c=s1.heap.objs.size+1:=by simpa using hc
   have hle : @LE.le Nat _ s1.heap.objs.size c:=by
    rcases hc' with rfl | rfl | rfl | rfl | rfl
    ·exact Nat.le_add_right _ _
    ·exact Nat.le_add_right _ _
    ·exact Nat.le_add_right _ _
    ·exact Nat.le_refl _
    ·exact Nat.le_add_right _ _
   exact I1.fpOk hle (I1.hok.fresh hle)
section
variable {prog:Program} {w:World}
theorem wkr_lst(it t:Addr)(hne:t≠it)(vs:Array Value):Wkr prog w it t vs.size (fun i v=>vs[i]? = some v) (fun i h=>h.IsListIter it t i/\h.IsList t vs) where
 obj:=fun i h ⟨⟨o,ho,_,hd⟩,_⟩=>⟨o,ho,fun v q=>by rw [hd] at q;cases q⟩
 keep:=fun i h h' ⟨⟨o,ho,r⟩,⟨o2,ho2,r2⟩⟩ k1 k2=>⟨⟨o,k1 o ho,r⟩,⟨o2,k2 o2 ho2,r2⟩⟩
 item:=fun A E s Q i hi ⟨ci,ct⟩ q=>by
  have ct':=ct
  obtain ⟨o,ho,hc,hd⟩:=id ci
  obtain ⟨ot,hot,_,nt,hdt⟩:=ct
  have hx:vs[i]? = some vs[i]:=by simp [hi]
  unfold Builtin.SmallTypes.nextOf
  refine wpAny_bind (wpAny_callSpecial?_slot (name:=Str.ofString "__next__") ci.typeIs slot_listiter_next (wpAny_call_entry slot_listiter_next ci.typeIs entry_listiter_next ?_ (args_listiter_next _)))
  change wpAny _ _ (field (.ref it) 0 >>= _) _ _ s
  refine wpAny_bind (wpAny_field ho hd (x:=Value.ref t) rfl ?_)
  change wpAny _ _ (if (Value.ref t == Value.none)=true then _ else _) _ _ s
  rw [if_neg (show ¬((Value.ref t == Value.none)=true) from fun y=>Bool.false_ne_true y)]
  change wpAny _ _ (field (.ref it) 1 >>= _) _ _ s
  refine wpAny_bind (wpAny_field ho hd (x:=Value.int i 0) rfl ?_)
  change wpAny _ _ (seqItems? (.ref t) >>= _) _ _ s
  refine wpAny_bind (wpAny_seqItems hot hdt ?_)
  simp only [hx,Int.toNat_natCast]
  refine wpAny_bind (wpAny_setField ho hd (by simp) (wpAny_pure ⟨vs[i],rfl,wpAny_pure (q _ _ hx ⟨?_,ct'.extBut (Heap.SameBut.update ..).extBut hne⟩ (Heap.SameBut.update ..))⟩))
  exact ⟨_,Heap.get?_update_self _ ho (Obj.isFreed_of_fields (Obj.data_mapFields hd _)),(Obj.cls_mapFields ..).trans hc,by rw [Obj.data_mapFields hd];simp [rawInt]⟩
 stop:=fun A E s Q hh ⟨ci,ct⟩ q=>by
  obtain ⟨o,ho,hc,hd⟩:=id ci
  obtain ⟨ot,hot,_,nt,hdt⟩:=ct
  have hx:vs[vs.size]? = none:=by simp
  unfold Builtin.SmallTypes.nextOf
  refine wpAny_bind (wpAny_callSpecial?_slot (name:=Str.ofString "__next__") ci.typeIs slot_listiter_next (wpAny_call_entry slot_listiter_next ci.typeIs entry_listiter_next ?_ (args_listiter_next _)))
  change wpAny _ _ (field (.ref it) 0 >>= _) _ _ s
  refine wpAny_bind (wpAny_field ho hd (x:=Value.ref t) rfl ?_)
  change wpAny _ _ (if (Value.ref t == Value.none)=true then _ else _) _ _ s
  rw [if_neg (show ¬((Value.ref t == Value.none)=true) from fun y=>Bool.false_ne_true y)]
  change wpAny _ _ (field (.ref it) 1 >>= _) _ _ s
  refine wpAny_bind (wpAny_field ho hd (x:=Value.int vs.size 0) rfl ?_)
  change wpAny _ _ (seqItems? (.ref t) >>= _) _ _ s
  refine wpAny_bind (wpAny_seqItems hot hdt ?_)
  simp only [hx,Int.toNat_natCast]
  refine wpAny_bind (wpAny_rule (wpAny_bind (wpAny_setField ho hd (by simp) ?_)))
  change wpAny _ _ (newExc (.type "StopIteration") [] >>= _) _ _ _
  refine wpAny_bind ?_
  simp only [newTuple,newExc]
  refine wpAny_bind (wpAny_newObj_type ?_ (by size_fits))
  refine wpAny_bind (m:=firstArgMember _ _) (wpAny_of_eq (a:=Value.none) (by first | rfl | (simp only [firstArgMember];rfl)) (wpAny_newObj_type ?_ (by size_fits)))
  simp only [raiseNew]
  refine wpAny_bind (wpAny_handled ?_)
  first | rw [show A.in1.handled=none from hh] | rw [hh]
  exact wpAny_bind (wpAny_pure (wpAny_throw (q _ _ (((Heap.SameBut.update ..).extBut.push _).push _) ⟨_,Heap.get?_push_size _ rfl,rfl⟩)))
def zm1(h:Heap)(l1:Addr):Heap:=h.push { cls:=.type "tuple_iterator",data:=.fields #[.ref l1,.int 0 0] }
def zm2(h:Heap)(l1 l2:Addr):Heap:=(zm1 h l1).push { cls:=.type "list_iterator",data:=.fields #[.ref l2,.int 0 0] }
def zm3(h:Heap)(l1 l2:Addr):Heap:=(zm2 h l1 l2).push { cls:=.type "tuple",data:=.seq #[.ref h.objs.size,.ref (zm1 h l1).objs.size] }
def zm4(h:Heap)(l1 l2:Addr):Heap:=(zm3 h l1 l2).push { cls:=.type "tuple",data:=.seq #[.none,.none] }
def zm5(h:Heap)(l1 l2:Addr):Heap:=(zm4 h l1 l2).push { cls:=.type "zip",data:=.fields #[.none,.bool false,.bool false,.ref (zm2 h l1 l2).objs.size,.ref (zm3 h l1 l2).objs.size] }
theorem zipm_new(l1 l2:Addr)(xs ys:Array Value):Meets (Builtin.«zip.__new__» ⟨[.type "zip",.ref l1,.ref l2],[]⟩) (fun _ R s=>s.heap.IsTuple l1 xs/\s.heap.IsList l2 ys/\R (.ok (.ret (.ref (zm4 s.heap l1 l2).objs.size))) { s with heap:=zm5 s.heap l1 l2 }) :=
 .of_wp fun prog w A R s ⟨c1,c2,q⟩=>by
  obtain ⟨hp,g,d,tk,os⟩:=s
  have hsub:=sub_zip
  have d1:Heap.IsTuple (Shared.heap ⟨hp,g,d,tk,os⟩) l1 xs:=c1
  have d2:Heap.IsList (Shared.heap ⟨zm1 hp l1,g,d,tk,os⟩) l2 ys:=Heap.IsList.push c2 _
  unfold zm5 zm4 zm3 zm2 zm1 at q
  unfold zm1 at d2
  wp_walk using wpAny_pyIter_tuple d1,wpAny_pyIter_list d2
  exact ⟨_,rfl,q⟩
theorem zipm_call{A:Around}{E:Value->Shared->Prop}{s:Shared}{l1 l2:Addr}{xs ys:Array Value}{Q:Value->Shared->Prop}(c1:s.heap.IsTuple l1 xs)(c2:s.heap.IsList l2 ys)
  (q:∀ h',IsZip h' (s.heap.objs.size+4) (s.heap.objs.size+2) (s.heap.objs.size+3) .none->IsPair h' (s.heap.objs.size+2) (.ref s.heap.objs.size) (.ref (s.heap.objs.size+1))->IsPair h' (s.heap.objs.size+3) .none .none ->
   h'.IsTupleIter s.heap.objs.size l1 0->h'.IsListIter (s.heap.objs.size+1) l2 0->(∀ c o,s.heap.get? c=some o->h'.get? c=some o)->Q (.ref (s.heap.objs.size+4)) { s with heap:=h' }):wpAny (model prog w) A (call (.type "zip") [.ref l1,.ref l2]) Q E s:=by
 refine callType_new F.called_zip (by decide) (F.typeCall_zip_2 _ _) (F.newCall_zip_2 _ _) (fun obj=>F.args_object_init_3 obj _ _) F.entry_zip_new (zipm_new l1 l2 xs ys) ⟨c1,c2,?_⟩
 have e1:(zm1 s.heap l1).objs.size=s.heap.objs.size+1:=Heap.size_push ..
 have e2:(zm2 s.heap l1 l2).objs.size=s.heap.objs.size+2:=by unfold zm2;rw [Heap.size_push,e1]
 have e3:(zm3 s.heap l1 l2).objs.size=s.heap.objs.size+3:=by unfold zm3;rw [Heap.size_push,e2]
 have e4:(zm4 s.heap l1 l2).objs.size=s.heap.objs.size+4:=by unfold zm4;rw [Heap.size_push,e3]
 have g5:(zm5 s.heap l1 l2).get? (zm4 s.heap l1 l2).objs.size=some { cls:=.type "zip",data:=.fields #[.none,.bool false,.bool false,.ref (zm2 s.heap l1 l2).objs.size,.ref (zm3 s.heap l1 l2).objs.size] }:=Heap.get?_push_size _ rfl
 have g4:(zm5 s.heap l1 l2).get? (zm3 s.heap l1 l2).objs.size=some { cls:=.type "tuple",data:=.seq #[.none,.none] }:=Heap.get?_push_of_some _ (Heap.get?_push_size _ rfl)
 have g3:(zm5 s.heap l1 l2).get? (zm2 s.heap l1 l2).objs.size=some { cls:=.type "tuple",data:=.seq #[.ref s.heap.objs.size,.ref (zm1 s.heap l1).objs.size] }:=Heap.get?_push_of_some _ (Heap.get?_push_of_some _ (Heap.get?_push_size _ rfl))
 have g2:(zm5 s.heap l1 l2).get? (zm1 s.heap l1).objs.size=some { cls:=.type "list_iterator",data:=.fields #[.ref l2,.int 0 0] }:=Heap.get?_push_of_some _ (Heap.get?_push_of_some _ (Heap.get?_push_of_some _ (Heap.get?_push_size _ rfl)))
 have g1:(zm5 s.heap l1 l2).get? s.heap.objs.size=some { cls:=.type "tuple_iterator",data:=.fields #[.ref l1,.int 0 0] }:=Heap.get?_push_of_some _ (Heap.get?_push_of_some _ (Heap.get?_push_of_some _ (Heap.get?_push_of_some _ (Heap.get?_push_size _ rfl))))
 rw [e4,e3,e2] at g5
 rw [e3] at g4
 rw [e2,e1] at g3
 rw [e1] at g2
 have q':=q (zm5 s.heap l1 l2) g5 g3 g4 ⟨_,g1,rfl,rfl⟩ ⟨_,g2,rfl,rfl⟩ fun c o e=>Heap.get?_push_of_some _ (Heap.get?_push_of_some _ (Heap.get?_push_of_some _ (Heap.get?_push_of_some _ (Heap.get?_push_of_some _ e))))
 rw [e4]
 exact ⟨⟨_,g5,rfl⟩,q'⟩
end
def Itzm(K : PySem.W.Frag)(a b : Addr) : It :=
  ⟨fun i H => ∃ xs ys x y, SqT K H a xs /\ SqL K H b ys /\ xs.length = ys.length /\ xs[i]? = some x /\ ys[i]? = some y,
   fun i H v H' => ∃ p x y, v = .ref p /\ H p = none /\ H' = upd H p (.tup [x, y]) /\ (∀ xs, SqT K H a xs -> xs[i]? = some x) /\ ∀ ys, SqL K H b ys -> ys[i]? = some y,
   fun i H => ∃ xs ys, SqT K H a xs /\ SqL K H b ys /\ xs.length = i⟩
theorem turn_zipm{P:Program}{w:World}{K:PySem.W.Frag}{elts:List Expr}{kk:Nat}{pos:Pos}(a b z TI TO i1 i2:Addr)(D:ZipApart z TI TO i1 i2 a b) :
  Turn P w K (.Tuple elts kk pos) (Itzm K a b) [z,TI,TO,i1,i2] z (fun i h=>IsZip h z TI TO .none/\IsPair h TI (.ref i1) (.ref i2)/\(∃ c d,IsPair h TO c d)/\h.IsTupleIter i1 a i/\h.IsListIter i2 b i) where
 mem:=by simp
 obj:=fun i h st c hc=>by
  obtain ⟨h1,h2,⟨x,y,h3⟩,⟨o4,e4,c4,d4⟩,⟨o5,e5,c5,d5⟩⟩:=st
  have hc':c=z\/c=TI\/c=TO\/c=i1\/c=i2:=by simpa using hc
  rcases hc' with rfl | rfl | rfl | rfl | rfl
  ·exact ⟨_,h1,fun v q=>by cases q⟩
  ·exact ⟨_,h2,fun v q=>by cases q⟩
  ·exact ⟨_,h3,fun v q=>by cases q⟩
  ·exact ⟨o4,e4,fun v q=>by rw [d4] at q;cases q⟩
  ·exact ⟨o5,e5,fun v q=>by rw [d5] at q;cases q⟩
 keep:=fun i h h' st k=>by
  obtain ⟨h1,h2,⟨x,y,h3⟩,⟨o4,e4,r4⟩,⟨o5,e5,r5⟩⟩:=st
  exact ⟨k z (by simp) _ h1,k TI (by simp) _ h2,⟨x,y,k TO (by simp) _ h3⟩,⟨o4,k i1 (by simp) _ e4,r4⟩,⟨o5,k i2 (by simp) _ e5,r5⟩⟩
 item:=by
  intro X hP hw hK hc i pins s σ H E I hf st hg
  subst hP hw hK
  obtain ⟨xs,ys,x,y,hq1,hq2,hll,hx,hy⟩:=hg
  obtain ⟨its1,rv1,p1,hz1⟩:=I.tuple hq1
  obtain ⟨its2,rv2,p2,hz2⟩:=I.list hq2
  obtain ⟨u1,hu1,ru1⟩:=rv1.get hx
  obtain ⟨u2,hu2,ru2⟩:=rv2.get hy
  obtain ⟨sz,sTI,⟨c,d,sTO⟩,s1,s2⟩:=st
  have hT:s.TypeIs (.ref z) "zip" := ⟨_,sz,rfl⟩
  have W1:=wkr_tup (prog:=X.prog) (w:=X.w) i1 a D.l1i1 its1.toArray
  have W2:=wkr_lst (prog:=X.prog) (w:=X.w) i2 b D.l2i2 its2.toArray
  unfold pyNext;refine wpAny_bind (wpAny_attempt (wpAny_callSpecial?_slot (name:=Str.ofString "__next__") hT F.slot_zip_next (wpAny_call_entry F.slot_zip_next hT F.entry_zip_next (zipw_item D W1 W2 sz sTI sTO ⟨s1,p1⟩ ⟨s2,p2.isList⟩ (by have:=(List.getElem?_eq_some_iff.mp hu1).1;simpa using this) (by have:=(List.getElem?_eq_some_iff.mp hu2).1;simpa using this) fun v1 v2 h' px py b1 b2 b3 b4 b5 hk=>wpAny_pure ?_) (F.args_zip_next_1 _))))
  obtain rfl:v1=u1:=by have px':its1[i]? = some v1:=(by simpa using px);rw [hu1] at px';exact (Option.some.inj px').symm
  obtain rfl:v2=u2:=by have py':its2[i]? = some v2:=(by simpa using py);rw [hu2] at py';exact (Option.some.inj py').symm
  have lt:∀ {c o},s.heap.get? c=some o->c≠s.heap.objs.size:=fun e=>Nat.ne_of_lt (Heap.lt_size e)
  have I0:Inv X pins σ (upd H s.heap.objs.size (.tup [x,y])) { s with heap:=s.heap.push { cls:=.type "tuple",data:=.seq #[v1,v2] },toks:=s.toks } :=
   I.laid (a:=s.heap.objs.size) (o:=.tup [x,y]) (t':=s.toks) (fun b u e=>Heap.get?_push_of_some _ e) (Nat.le_refl _) ⟨(by show 2<=sizeLine;decide),[v1,v2],.cons ru1 (.cons ru2 .nil),_,Heap.get?_push_size _ rfl,rfl,_,rfl⟩
  have hnone:∀ c∈[z,TI,TO,i1,i2],(upd H s.heap.objs.size (.tup [x,y])) c=none:=fun c hc'=>by
   have hne:c≠s.heap.objs.size:=by
    have hc'':c=z\/c=TI\/c=TO\/c=i1\/c=i2:=by simpa using hc'
    rcases hc'' with rfl | rfl | rfl | rfl | rfl
    ·exact lt sz
    ·exact lt sTI
    ·exact lt sTO
    ·obtain ⟨_,e,_⟩:=s1;exact lt e
    ·obtain ⟨_,e,_⟩:=s2;exact lt e
   rw [z_j hne]
   exact (hf c hc').1
  have hf':∀ c∈[z,TI,TO,i1,i2],FpOk X pins (upd H s.heap.objs.size (.tup [x,y])) c:=fun c hc'=>⟨hnone c hc',(hf c hc').2⟩
  have kk1:∀ c o,c∉[z,TO,i1,i2]->(s.heap.push { cls:=.type "tuple",data:=.seq #[v1,v2] }).get? c=some o->h'.get? c=some o:=fun c o hn e=>by
   rcases Heap.get?_push_cases e with ⟨rfl,rfl⟩ | e'
   ·exact b5
   ·exact hk c o hn e'
  have kk2:∀ c∈[z,TO,i1,i2],FpOk X pins (upd H s.heap.objs.size (.tup [x,y])) c:=fun c hc'=>hf' c (by
   have hc'':c=z\/c=TO\/c=i1\/c=i2:=by simpa using hc'
   rcases hc'' with rfl | rfl | rfl | rfl<;>simp)
  have I1:=I0.turnedL (h':=h') (t':=s.toks) (ch:=[z,TO,i1,i2]) kk1 kk2
  refine ⟨_,rfl,wpAny_letOwnedTupleGo_zip b1 fun h2 c1 c2=>?_⟩
  have I2:=I1.turnedL (h':=h2) (t':=s.toks) (ch:=[z]) (fun c o hn e=>(c2.2 c (fun q=>hn (by simp [q]))).trans e) (fun c hc'=>hf' c (by rw [List.mem_singleton.mp hc'];simp))
  refine ⟨.ref s.heap.objs.size,_,I2,rfl,⟨_,x,y,rfl,I.hok.fresh (Nat.le_refl _),rfl,fun xs' q=>by rw [I.tuple_inj q hq1];exact hx,fun ys' q=>by rw [I.list_inj q hq2];exact hy⟩,?_,hnone⟩
  have mv:∀ c o,c≠z->h'.get? c=some o->h2.get? c=some o:=fun c o hn e=>(c2.2 c hn).trans e
  obtain ⟨⟨o3,e3,r3⟩,_⟩:=b3
  obtain ⟨⟨o4,e4,r4⟩,_⟩:=b4
  exact ⟨c1,mv _ _ D.TIz (hk _ _ (by simp [D.TIz,D.TITO,D.TIi1,D.TIi2]) sTI),⟨_,_,mv _ _ D.TOz b2⟩,⟨o3,mv _ _ D.i1z e3,r3⟩,⟨o4,mv _ _ D.i2z e4,r4⟩⟩
 done:=by
  intro X hP hw hK hc i pins s σ H E I hf st hg
  subst hP hw hK
  obtain ⟨xs,ys,hq1,hq2,hx⟩:=hg
  obtain ⟨its1,rv1,p1,hz1⟩:=I.tuple hq1
  have l1:=rv1.length
  obtain ⟨sz,sTI,⟨c,d,sTO⟩,s1,s2⟩:=st
  have hT:s.TypeIs (.ref z) "zip" := ⟨_,sz,rfl⟩
  have W1:=wkr_tup (prog:=X.prog) (w:=X.w) i1 a D.l1i1 its1.toArray
  have ei:its1.toArray.size=i:=by simp;lia
  unfold pyNext;refine wpAny_bind (wpAny_attempt (wpAny_callSpecial?_slot (name:=Str.ofString "__next__") hT F.slot_zip_next (wpAny_call_entry F.slot_zip_next hT F.entry_zip_next (zipw_end (I.ok.hd hc) D W1 sz sTI (by rw [ei];exact ⟨s1,p1⟩) fun h' e hk ⟨oe,e1,e2⟩=>?_) (F.args_zip_next_1 _))))
  refine wpAny_bind (wpAny_isInstance (T := "StopIteration") (b:=true) ⟨oe,e1,e2⟩ isSubtype_stop (wpAny_pure ⟨rfl,I.turnedL (t':=s.toks) (ch:=[z,TO,i1,i2]) hk fun c hc'=>hf c ?_⟩))
  have hc'':c=z\/c=TO\/c=i1\/c=i2:=by simpa using hc'
  rcases hc'' with rfl | rfl | rfl | rfl<;>simp
 self:=fun _ _ _ _ _ st h=>wpAny_pyIter_zip st.1 h
def iZipm(K:PySem.W.Frag)(ta:TA):TI:=fun σ H R=>ta σ H fun vs H1=>∃ a b,vs=[.ref a,.ref b]/\(∃ xs,SqT K H1 a xs)/\(∃ ys,SqL K H1 b ys)/\R (Itzm K a b) H1
theorem pi_zipm{X:Cx}{elts:List Expr}{kk:Nat}{tpos:Pos}{a b:Expr}{ta:TA}{p pos:Pos}(hg:Gl X "zip")(hm:X.mg "zip" = none)(ha:PA X [a,b] ta)(hs:starEach [a,b] X.env=[(false,eval a X.env),(false,eval b X.env)]:=by rfl)(hs2:starEach [b] X.env=[(false,eval b X.env)]:=by rfl) :
  PI X (.Tuple elts kk tpos) (.Call (.Name "zip" p) [a,b] [] pos) (iZipm X.K ta):=by
 intro pins s σ H R I h
 refine Call_ (ld_blt I hg hm PyProof.Rows.boot_zip (PyProof.Rows.callWith_type1 (thn (ha pos pins s σ H _ I h) fun us s1 ⟨vs,H1,I1,r1,q1⟩=>?_) (by rw [hs,hs2]) (by rw [hs2];rfl)))
 obtain ⟨l1,l2,e,⟨xs,hq1⟩,⟨ys,hq2⟩,q⟩:=q1
 subst e
 cases r1 with
 | cons r rr =>
  cases rr with
  | cons r' rr =>
   cases rr
   cases r
   cases r'
   obtain ⟨its1,rv1,p1,hz1⟩:=I1.tuple hq1
   obtain ⟨its2,rv2,p2,hz2⟩:=I1.list hq2
   have hlt1 : @LT.lt Nat _ l1 s1.heap.objs.size:=by obtain ⟨o,e,_⟩:=p1;exact Heap.lt_size e
   have hlt2 : @LT.lt Nat _ l2 s1.heap.objs.size:=by obtain ⟨o,e,_⟩:=p2.isList;exact Heap.lt_size e
   refine zipm_call p1 p2.isList fun h' hz hTI hTO hi1 hi2 hk=>wpAny_pyIter_zip hz ?_
   have D:ZipApart (s1.heap.objs.size+4) (s1.heap.objs.size+2) (s1.heap.objs.size+3) s1.heap.objs.size (s1.heap.objs.size+1) l1 l2:=PySem.W.ktu_apart _ _ _ hlt1 hlt2
   refine ⟨_,[s1.heap.objs.size+4,s1.heap.objs.size+2,s1.heap.objs.size+3,s1.heap.objs.size,s1.heap.objs.size+1],_,_,H1,rfl,I1.kept (t':=s1.toks) hk,turn_zipm l1 l2 _ _ _ _ _ D,⟨hz,hTI,⟨_,_,hTO⟩,hi1,hi2⟩,fun c hc=>?_,q⟩
   have hc':c=s1.heap.objs.size+4\/c=s1.heap.objs.size+2\/c=s1.heap.objs.size+3\/c=s1.heap.objs.size\/c=s1.heap.objs.size+1:=by simpa using hc
   have hle : @LE.le Nat _ s1.heap.objs.size c:=by
    rcases hc' with rfl | rfl | rfl | rfl | rfl
    ·exact Nat.le_add_right _ _
    ·exact Nat.le_add_right _ _
    ·exact Nat.le_add_right _ _
    ·exact Nat.le_refl _
    ·exact Nat.le_add_right _ _
   exact I1.fpOk hle (I1.hok.fresh hle)
theorem for_zipm{K:PySem.W.Frag}{a b:Addr}{xs ys:List V}{g:TG}{tb:TS}{D:Ends}{σ:St}{H:Hp}(Pv:Nat->St->Hp->Prop)(h0:Pv 0 σ H)(hl:∀ i σ H,Pv i σ H->SqT K H a xs/\SqL K H b ys)(he:xs.length=ys.length)
  (hs:∀ i x y p σ H,xs[i]? = some x->ys[i]? = some y->Pv i σ H->H p=none->g (.ref p) σ (upd H p (.tup [x,y])) fun σ2 H2=>tb { D with nx:=Pv (i+1),ct:=Pv (i+1),bk:=D.nx } σ2 H2) (hd:∀ σ H,Pv xs.length σ H->D.nx σ H) :
  ∃ W:Nat->Nat->St->Hp->Prop,(∃ m,W 0 m σ H)/\∀ i m σ H,W i m σ H ->
   ((Itzm K a b).stop i H/\D.nx σ H)\/((Itzm K a b).go i H/\∃ N:St->Hp->Prop,(∀ σ' H',N σ' H'->∃ m',m'<m/\W (i+1) m' σ' H')/\∀ x H',(Itzm K a b).yld i H x H'->g x σ H' fun σ2 H2=>tb { D with nx:=N,ct:=N,bk:=D.nx } σ2 H2):=by
 refine ⟨fun i m σ H=>m=xs.length-i/\i<=xs.length/\Pv i σ H,⟨xs.length,by simp,Nat.zero_le _,h0⟩,?_⟩
 rintro i m σ H ⟨rfl,hi,p⟩
 obtain ⟨q1,q2⟩:=hl i σ H p
 by_cases hlt:i<xs.length
 ·have hlt2:i<ys.length:=by lia
  refine .inr ⟨⟨xs,ys,xs[i],ys[i],q1,q2,he,by simp [hlt],by simp [hlt2]⟩,Pv (i+1),fun σ' H' p'=>⟨xs.length-(i+1),by lia,rfl,hlt,p'⟩,fun v H' y=>?_⟩
  obtain ⟨r,x,y,rfl,hn,rfl,e1,e2⟩:=y
  exact hs i x y r σ H (e1 xs q1) (e2 ys q2) p hn
 ·have e:i=xs.length:=by lia
  subst e
  exact .inl ⟨⟨xs,ys,q1,q2,rfl⟩,hd σ H p⟩
open PySem PySem.Spec PyProof.Rows
theorem typeCall_zip_3(a b c:Value):checkTypeCall "zip" ⟨[a,b,c],[]⟩=pure ():=by kernel_rfl
theorem newCall_zip_3(a b c:Value):checkBuiltinCall "zip.__new__" ⟨[.type "zip",a,b,c],[]⟩=pure ():=by kernel_rfl
theorem args_object_init_4(a b c d:Value):argsOk "object.__init__" ⟨[a,b,c,d],[]⟩:=by
 unfold argsOk;rw [signature?_of (id := "object.__init__") (n:=['_','_','t','i','n','i','_','_']) (o:=['t','c','e','j','b','o']) (by kernel_rfl) F.owner_object];kernel_rfl
abbrev IsTrip(h:Heap)(T:Addr)(a b c:Value):Prop:=h.get? T=some { cls:=.type "tuple",data:=.seq #[a,b,c] }
structure Zap(z TI TO i1 i2 i3 l1 l2 l3:Addr):Prop where
 nd:[z,TI,TO,i1,i2,i3].Nodup
 a1:l1∉[z,TI,TO,i1,i2,i3]
 a2:l2∉[z,TI,TO,i1,i2,i3]
 a3:l3∉[z,TI,TO,i1,i2,i3]
section
variable {prog:Program} {w:World}
theorem updTrip{A:Around}{E:Value->Shared->Prop}{s:Shared}{T:Addr}{a b c x:Value}{k:Nat}{Q:Unit->Shared->Prop}(hT:IsTrip s.heap T a b c)
  (h:∀ h',h'.get? T=some { cls:=.type "tuple",data:=.seq ((#[a,b,c]:Array Value).setIfInBounds k x) }->Heap.SameBut T s.heap h'->Q () { s with heap:=h' }) :
  wpAny (model prog w) A (updateSeq T (·.setIfInBounds k x)) Q E s:=by
 refine wpAny_updateSeq hT rfl (h _ ?_ (Heap.SameBut.update ..))
 rw [Heap.get?_update_self _ hT rfl]
 simp [Obj.mapSeq]
theorem zip3_item{A:Around}{E:Value->Shared->Prop}{s:Shared}{z TI TO i1 i2 i3 l1 l2 l3:Addr}{n1 n2 n3 k:Nat}{P1 P2 P3:Nat->Value->Prop}{S1 S2 S3:Nat->Heap->Prop}{a b c:Value}{Q:Value->Shared->Prop}(D:Zap z TI TO i1 i2 i3 l1 l2 l3)
  (W1:Wkr prog w i1 l1 n1 P1 S1) (W2:Wkr prog w i2 l2 n2 P2 S2) (W3:Wkr prog w i3 l3 n3 P3 S3) (zz:IsZip s.heap z TI TO .none) (zi:IsTrip s.heap TI (.ref i1) (.ref i2) (.ref i3)) (zo:IsTrip s.heap TO a b c)
  (c1:S1 k s.heap) (c2:S2 k s.heap) (c3:S3 k s.heap) (lt1:k<n1) (lt2:k<n2) (lt3:k<n3)
  (q:∀ x y u h',P1 k x->P2 k y->P3 k u->IsZip h' z TI TO (rawInt s.heap.objs.size)->IsTrip h' TO x y u->S1 (k+1) h'->S2 (k+1) h'->S3 (k+1) h'->IsTrip h' s.heap.objs.size x y u->(∀ c o,c∉[z,TO,i1,i2,i3]->s.heap.get? c=some o->h'.get? c=some o)->Q (.ref s.heap.objs.size) { s with heap:=h' }) :
  wpAny (model prog w) A (Builtin.«zip.__next__» ⟨[.ref z],[]⟩) (fun fin s'=>∃ v,fin = .done (.ret v)/\Q v s') E s:=by
 obtain ⟨nd,a1,a2,a3⟩:=D
 simp only [List.nodup_cons,List.mem_cons,List.not_mem_nil,or_false,not_or,not_false_eq_true,List.nodup_nil,and_true] at nd
 simp only [List.mem_cons,List.not_mem_nil,or_false,not_or] at a1 a2 a3
 obtain ⟨⟨zTI,zTO,zi1,zi2,zi3⟩,⟨TITO,TIi1,TIi2,TIi3⟩,⟨TOi1,TOi2,TOi3⟩,⟨i12,i13⟩,i23⟩:=nd
 obtain ⟨l1z,l1TI,l1TO,l1i1,l1i2,l1i3⟩:=a1
 obtain ⟨l2z,l2TI,l2TO,l2i1,l2i2,l2i3⟩:=a2
 obtain ⟨l3z,l3TI,l3TO,l3i1,l3i2,l3i3⟩:=a3
 change wpAny _ _ (field (.ref z) 2 >>= _) _ _ _
 refine wpAny_bind (wpAny_field zz rfl (x:=.bool false) rfl ?_)
 change wpAny _ _ (field (.ref z) 3 >>= _) _ _ _
 refine wpAny_bind (wpAny_field zz rfl (x:=.ref TI) rfl ?_)
 refine wpAny_bind (wpAny_seqItems zi rfl ?_)
 change wpAny _ _ (Builtin.SmallTypes.ownedTupleIsFree (.ref z) >>= _) _ _ _
 refine wpAny_bind ?_
 unfold Builtin.SmallTypes.ownedTupleIsFree;refine wpAny_bind (wpAny_field zz rfl (x:=.none) rfl (wpAny_pure ?_))
 simp only [if_true]
 refine wpAny_bind (wpAny_rule ?_)
 refine wpAny_bind (wpAny_field zz rfl (x:=.ref TO) rfl ?_)
 refine wpAny_bind (wpAny_setField_rec zz (by simp) fun g1 zz1 t1=>?_)
 replace zz1:IsZip g1 z TI TO .ellipsis:=zz1
 refine wpAny_bind ?_
 simp only [List.forIn_cons,List.forIn_nil,List.zipIdx_cons,List.zipIdx_nil]
 refine wpAny_bind (wpAny_bind (wpAny_onRaise ?_))
 change wpAny _ _ (Builtin.SmallTypes.nextOf (.ref i1) >>= _) _ _ _
 have up1:∀ c o,c≠z->s.heap.get? c=some o->g1.get? c=some o:=fun c o hc e=>t1.extBut _ _ hc e
 refine wpAny_bind (W1.item _ _ _ _ k lt1 (W1.keep _ _ _ c1 (fun o e=>up1 _ o (Ne.symm zi1) e) fun o e=>up1 _ o l1z e) fun x g2 px d1 t2=>wpAny_pure ?_)
 have up2:∀ c o,c≠z->c≠i1->s.heap.get? c=some o->g2.get? c=some o:=fun c o h1 h2 e=>t2.extBut _ _ h2 (up1 c o h1 e)
 have zo2:IsTrip g2 TO a b c:=up2 _ _ (Ne.symm zTO) TOi1 zo
 refine wpAny_bind (wpAny_seqItems zo2 rfl ?_)
 refine wpAny_bind (updTrip zo2 fun g3 zo3 t3=>?_)
 replace zo3:IsTrip g3 TO x b c:=zo3
 refine wpAny_bind (wpAny_letGo (wpAny_pure ?_));refine wpAny_bind (wpAny_bind (wpAny_onRaise ?_))
 change wpAny _ _ (Builtin.SmallTypes.nextOf (.ref i2) >>= _) _ _ _
 have up3:∀ c o,c≠z->c≠i1->c≠TO->s.heap.get? c=some o->g3.get? c=some o:=fun c o h1 h2 h3 e=>t3.extBut _ _ h3 (up2 c o h1 h2 e)
 refine wpAny_bind (W2.item _ _ _ _ k lt2 (W2.keep _ _ _ c2 (fun o e=>up3 _ o (Ne.symm zi2) (Ne.symm i12) (Ne.symm TOi2) e) fun o e=>up3 _ o l2z l2i1 l2TO e) fun y g4 py d2 t4=>wpAny_pure ?_)
 have zo4:IsTrip g4 TO x b c:=t4.extBut _ _ TOi2 zo3
 refine wpAny_bind (wpAny_seqItems zo4 rfl ?_)
 refine wpAny_bind (updTrip zo4 fun g5 zo5 t5=>?_)
 replace zo5:IsTrip g5 TO x y c:=zo5
 refine wpAny_bind (wpAny_letGo (wpAny_pure ?_));refine wpAny_bind (wpAny_bind (wpAny_onRaise ?_))
 change wpAny _ _ (Builtin.SmallTypes.nextOf (.ref i3) >>= _) _ _ _
 have up5:∀ c o,c≠z->c≠i1->c≠TO->c≠i2->s.heap.get? c=some o->g5.get? c=some o:=fun c o h1 h2 h3 h4 e=>t5.extBut _ _ h3 (t4.extBut _ _ h4 (up3 c o h1 h2 h3 e))
 refine wpAny_bind (W3.item _ _ _ _ k lt3 (W3.keep _ _ _ c3 (fun o e=>up5 _ o (Ne.symm zi3) (Ne.symm i13) (Ne.symm TOi3) (Ne.symm i23) e) fun o e=>up5 _ o l3z l3i1 l3TO l3i2 e) fun u g6 pu d3 t6=>wpAny_pure ?_)
 have zo6:IsTrip g6 TO x y c:=t6.extBut _ _ TOi3 zo5
 refine wpAny_bind (wpAny_seqItems zo6 rfl ?_)
 refine wpAny_bind (updTrip zo6 fun g7 zo7 t7=>?_)
 replace zo7:IsTrip g7 TO x y u:=zo7
 refine wpAny_bind (wpAny_letGo (wpAny_pure (wpAny_pure ?_)));refine wpAny_bind (wpAny_seqItems zo7 rfl ?_)
 refine wpAny_bind (wpAny_newTuple ?_)
 have sz:g7.objs.size=s.heap.objs.size:=by rw [t7.1,t6.1,t5.1,t4.1,t3.1,t2.1,t1.1]
 have mv:∀ {c o},c≠TO->c≠i2->c≠i3->g3.get? c=some o->g7.get? c=some o:=fun {c o} n1 n2 n3 e=>t7.extBut _ _ n1 (t6.extBut _ _ n3 (t5.extBut _ _ n1 (t4.extBut _ _ n2 e)))
 have zz7:IsZip g7 z TI TO .ellipsis:=mv zTO zi2 zi3 (t3.extBut _ _ zTO (t2.extBut _ _ zi1 zz1))
 have up7:∀ c o,c∉[z,TO,i1,i2,i3]->s.heap.get? c=some o->g7.get? c=some o:=fun c o hc e=>by
  simp only [List.mem_cons,List.not_mem_nil,or_false,not_or] at hc
  exact t7.extBut _ _ hc.2.1 (t6.extBut _ _ hc.2.2.2.2 (up5 c o hc.1 hc.2.2.1 hc.2.1 hc.2.2.2.1 e))
 have d17:S1 (k+1) g7:=W1.keep _ _ _ d1 (fun o e=>mv (Ne.symm TOi1) i12 i13 (t3.extBut _ _ (Ne.symm TOi1) e)) fun o e=>mv l1TO l1i2 l1i3 (t3.extBut _ _ l1TO e)
 have d27:S2 (k+1) g7:=W2.keep _ _ _ d2 (fun o e=>t7.extBut _ _ (Ne.symm TOi2) (t6.extBut _ _ i23 (t5.extBut _ _ (Ne.symm TOi2) e))) fun o e=>t7.extBut _ _ l2TO (t6.extBut _ _ l2i3 (t5.extBut _ _ l2TO e))
 have d37:S3 (k+1) g7:=W3.keep _ _ _ d3 (fun o e=>t7.extBut _ _ (Ne.symm TOi3) e) fun o e=>t7.extBut _ _ l3TO e
 have zlt:z<g7.objs.size:=Heap.lt_size zz7
 change wpAny _ _ (Builtin.SmallTypes.ownedTupleHandOut (.ref z) (.ref g7.objs.size) >>= _) _ _ _
 refine wpAny_bind ?_
 unfold Builtin.SmallTypes.ownedTupleHandOut;have zz8:IsZip (g7.push { cls:=.type "tuple",data:=.seq #[x,y,u] }) z TI TO .ellipsis:=Heap.get?_push_of_some _ zz7
 refine wpAny_bind (wpAny_setField_rec zz8 (by simp) fun g9 zz9 t9=>?_)
 replace zz9:IsZip g9 z TI TO (rawInt g7.objs.size):=zz9
 refine wpAny_setField_rec zz9 (by simp) fun g10 zz10 t10=>?_
 replace zz10:IsZip g10 z TI TO (rawInt g7.objs.size):=zz10
 have up:∀ c o,c≠z->g7.get? c=some o->g10.get? c=some o:=fun c o hc e=>t10.extBut _ _ hc (t9.extBut _ _ hc (Heap.get?_push_of_some _ e))
 have pr:IsTrip g10 g7.objs.size x y u:=t10.extBut _ _ (Nat.ne_of_gt zlt) (t9.extBut _ _ (Nat.ne_of_gt zlt) (Heap.get?_push_size _ rfl))
 rw [sz] at zz10 pr
 refine wpAny_pure ⟨_,rfl,?_⟩
 change Q (.ref g7.objs.size) _
 rw [sz]
 exact q x y u g10 px py pu zz10 (up _ _ (Ne.symm zTO) zo7) (W1.keep _ _ _ d17 (fun o e=>up _ o (Ne.symm zi1) e) fun o e=>up _ o l1z e) (W2.keep _ _ _ d27 (fun o e=>up _ o (Ne.symm zi2) e) fun o e=>up _ o l2z e) (W3.keep _ _ _ d37 (fun o e=>up _ o (Ne.symm zi3) e) fun o e=>up _ o l3z e) pr fun c o hc e=>up c o (fun h=>hc (by simp [h])) (up7 c o hc e)
theorem zip3_end{A:Around}{E:Value->Shared->Prop}{s:Shared}{z TI TO i1 i2 i3 l1 l2 l3:Addr}{n1:Nat}{P1:Nat->Value->Prop}{S1:Nat->Heap->Prop}{Q:Fin->Shared->Prop}(hh:A.handled=none)(D:Zap z TI TO i1 i2 i3 l1 l2 l3)
  (W1:Wkr prog w i1 l1 n1 P1 S1) (zz:IsZip s.heap z TI TO .none) (zi:IsTrip s.heap TI (.ref i1) (.ref i2) (.ref i3)) (c1:S1 n1 s.heap)
  (q:∀ h' e,(∀ c o,c∉[z,TO,i1,i2,i3]->s.heap.get? c=some o->h'.get? c=some o)->(∃ o,h'.get? e=some o/\o.cls = .type "StopIteration")->E (.ref e) { s with heap:=h' }) :
  wpAny (model prog w) A (Builtin.«zip.__next__» ⟨[.ref z],[]⟩) Q E s:=by
 obtain ⟨nd,a1,a2,a3⟩:=D
 simp only [List.nodup_cons,List.mem_cons,List.not_mem_nil,or_false,not_or,not_false_eq_true,List.nodup_nil,and_true] at nd
 simp only [List.mem_cons,List.not_mem_nil,or_false,not_or] at a1
 obtain ⟨⟨zTI,zTO,zi1,zi2,zi3⟩,_⟩:=nd
 change wpAny _ _ (field (.ref z) 2 >>= _) _ _ _
 refine wpAny_bind (wpAny_field zz rfl (x:=.bool false) rfl ?_)
 change wpAny _ _ (field (.ref z) 3 >>= _) _ _ _
 refine wpAny_bind (wpAny_field zz rfl (x:=.ref TI) rfl ?_)
 refine wpAny_bind (wpAny_seqItems zi rfl ?_)
 change wpAny _ _ (Builtin.SmallTypes.ownedTupleIsFree (.ref z) >>= _) _ _ _
 refine wpAny_bind ?_
 unfold Builtin.SmallTypes.ownedTupleIsFree;refine wpAny_bind (wpAny_field zz rfl (x:=.none) rfl (wpAny_pure ?_))
 simp only [if_true]
 refine wpAny_bind (wpAny_rule ?_)
 refine wpAny_bind (wpAny_field zz rfl (x:=.ref TO) rfl ?_)
 refine wpAny_bind (wpAny_setField_rec zz (by simp) fun g1 zz1 t1=>?_)
 replace zz1:IsZip g1 z TI TO .ellipsis:=zz1
 refine wpAny_bind ?_
 simp only [List.forIn_cons,List.forIn_nil,List.zipIdx_cons,List.zipIdx_nil]
 refine wpAny_bind (wpAny_bind (wpAny_onRaise ?_))
 change wpAny _ _ (Builtin.SmallTypes.nextOf (.ref i1) >>= _) _ _ _
 have up1:∀ c o,c≠z->s.heap.get? c=some o->g1.get? c=some o:=fun c o hc e=>t1.extBut _ _ hc e
 refine wpAny_bind (W1.stop _ _ _ _ hh (W1.keep _ _ _ c1 (fun o e=>up1 _ o (Ne.symm zi1) e) fun o e=>up1 _ o a1.1 e) fun g2 e t2 ⟨oe,e1,e2⟩=>?_)
 have zz2:IsZip g2 z TI TO .ellipsis:=t2 _ _ zi1 zz1
 have ez:e≠z:=fun x=>by subst x;rw [zz2] at e1;cases e1;simp at e2
 refine wpAny_setField_rec zz2 (by simp) fun g3 _ t3=>q g3 e (fun c o hc x=>?_) ⟨oe,t3.extBut _ _ ez e1,e2⟩
 simp only [List.mem_cons,List.not_mem_nil,or_false,not_or] at hc
 exact t3.extBut _ _ hc.1 (t2 _ _ hc.2.2.1 (up1 c o hc.1 x))
def zh1(h:Heap)(l1:Addr):Heap:=h.push { cls:=.type "tuple_iterator",data:=.fields #[.ref l1,.int 0 0] }
def zh2(h:Heap)(l1 l2:Addr):Heap:=(zh1 h l1).push { cls:=.type "tuple_iterator",data:=.fields #[.ref l2,.int 0 0] }
def zh3(h:Heap)(l1 l2 l3:Addr):Heap:=(zh2 h l1 l2).push { cls:=.type "list_iterator",data:=.fields #[.ref l3,.int 0 0] }
def zh4(h:Heap)(l1 l2 l3:Addr):Heap:=(zh3 h l1 l2 l3).push { cls:=.type "tuple",data:=.seq #[.ref h.objs.size,.ref (zh1 h l1).objs.size,.ref (zh2 h l1 l2).objs.size] }
def zh5(h:Heap)(l1 l2 l3:Addr):Heap:=(zh4 h l1 l2 l3).push { cls:=.type "tuple",data:=.seq #[.none,.none,.none] }
def zh6(h:Heap)(l1 l2 l3:Addr):Heap:=(zh5 h l1 l2 l3).push { cls:=.type "zip",data:=.fields #[.none,.bool false,.bool false,.ref (zh3 h l1 l2 l3).objs.size,.ref (zh4 h l1 l2 l3).objs.size] }
set_option maxHeartbeats 2000000 in
theorem zip3_new(l1 l2 l3:Addr)(xs ys us:Array Value):Meets (Builtin.«zip.__new__» ⟨[.type "zip",.ref l1,.ref l2,.ref l3],[]⟩) (fun _ R s=>s.heap.IsTuple l1 xs/\s.heap.IsTuple l2 ys/\s.heap.IsList l3 us/\R (.ok (.ret (.ref (zh5 s.heap l1 l2 l3).objs.size))) { s with heap:=zh6 s.heap l1 l2 l3 }) :=
 .of_wp fun prog w A R s ⟨c1,c2,c3,q⟩=>by
  obtain ⟨hp,g,d,tk,os⟩:=s
  have hsub:=sub_zip
  have d1:Heap.IsTuple (Shared.heap ⟨hp,g,d,tk,os⟩) l1 xs:=c1
  have d2:Heap.IsTuple (Shared.heap ⟨zh1 hp l1,g,d,tk,os⟩) l2 ys:=Heap.IsTuple.push c2 _
  have d3:Heap.IsList (Shared.heap ⟨zh2 hp l1 l2,g,d,tk,os⟩) l3 us:=Heap.IsList.push (Heap.IsList.push c3 _) _
  unfold zh6 zh5 zh4 zh3 zh2 zh1 at q
  unfold zh1 at d2
  unfold zh2 zh1 at d3
  wp_walk using wpAny_pyIter_tuple d1,wpAny_pyIter_tuple d2,wpAny_pyIter_list d3
  exact ⟨_,rfl,q⟩
theorem zip3_call{A:Around}{E:Value->Shared->Prop}{s:Shared}{l1 l2 l3:Addr}{xs ys us:Array Value}{Q:Value->Shared->Prop}(c1:s.heap.IsTuple l1 xs)(c2:s.heap.IsTuple l2 ys)(c3:s.heap.IsList l3 us)
  (q:∀ h',IsZip h' (s.heap.objs.size+5) (s.heap.objs.size+3) (s.heap.objs.size+4) .none->IsTrip h' (s.heap.objs.size+3) (.ref s.heap.objs.size) (.ref (s.heap.objs.size+1)) (.ref (s.heap.objs.size+2))->IsTrip h' (s.heap.objs.size+4) .none .none .none ->
   h'.IsTupleIter s.heap.objs.size l1 0->h'.IsTupleIter (s.heap.objs.size+1) l2 0->h'.IsListIter (s.heap.objs.size+2) l3 0->(∀ c o,s.heap.get? c=some o->h'.get? c=some o)->Q (.ref (s.heap.objs.size+5)) { s with heap:=h' }):wpAny (model prog w) A (call (.type "zip") [.ref l1,.ref l2,.ref l3]) Q E s:=by
 refine callType_new F.called_zip (by decide) (typeCall_zip_3 _ _ _) (newCall_zip_3 _ _ _) (fun obj=>args_object_init_4 obj _ _ _) F.entry_zip_new (zip3_new l1 l2 l3 xs ys us) ⟨c1,c2,c3,?_⟩
 have e1:(zh1 s.heap l1).objs.size=s.heap.objs.size+1:=Heap.size_push ..
 have e2:(zh2 s.heap l1 l2).objs.size=s.heap.objs.size+2:=by unfold zh2;rw [Heap.size_push,e1]
 have e3:(zh3 s.heap l1 l2 l3).objs.size=s.heap.objs.size+3:=by unfold zh3;rw [Heap.size_push,e2]
 have e4:(zh4 s.heap l1 l2 l3).objs.size=s.heap.objs.size+4:=by unfold zh4;rw [Heap.size_push,e3]
 have e5:(zh5 s.heap l1 l2 l3).objs.size=s.heap.objs.size+5:=by unfold zh5;rw [Heap.size_push,e4]
 have g6:(zh6 s.heap l1 l2 l3).get? (zh5 s.heap l1 l2 l3).objs.size=some { cls:=.type "zip",data:=.fields #[.none,.bool false,.bool false,.ref (zh3 s.heap l1 l2 l3).objs.size,.ref (zh4 s.heap l1 l2 l3).objs.size] }:=Heap.get?_push_size _ rfl
 have g5:(zh6 s.heap l1 l2 l3).get? (zh4 s.heap l1 l2 l3).objs.size=some { cls:=.type "tuple",data:=.seq #[.none,.none,.none] }:=Heap.get?_push_of_some _ (Heap.get?_push_size _ rfl)
 have g4:(zh6 s.heap l1 l2 l3).get? (zh3 s.heap l1 l2 l3).objs.size=some { cls:=.type "tuple",data:=.seq #[.ref s.heap.objs.size,.ref (zh1 s.heap l1).objs.size,.ref (zh2 s.heap l1 l2).objs.size] }:=Heap.get?_push_of_some _ (Heap.get?_push_of_some _ (Heap.get?_push_size _ rfl))
 have g3:(zh6 s.heap l1 l2 l3).get? (zh2 s.heap l1 l2).objs.size=some { cls:=.type "list_iterator",data:=.fields #[.ref l3,.int 0 0] }:=Heap.get?_push_of_some _ (Heap.get?_push_of_some _ (Heap.get?_push_of_some _ (Heap.get?_push_size _ rfl)))
 have g2:(zh6 s.heap l1 l2 l3).get? (zh1 s.heap l1).objs.size=some { cls:=.type "tuple_iterator",data:=.fields #[.ref l2,.int 0 0] }:=Heap.get?_push_of_some _ (Heap.get?_push_of_some _ (Heap.get?_push_of_some _ (Heap.get?_push_of_some _ (Heap.get?_push_size _ rfl))))
 have g1:(zh6 s.heap l1 l2 l3).get? s.heap.objs.size=some { cls:=.type "tuple_iterator",data:=.fields #[.ref l1,.int 0 0] }:=Heap.get?_push_of_some _ (Heap.get?_push_of_some _ (Heap.get?_push_of_some _ (Heap.get?_push_of_some _ (Heap.get?_push_of_some _ (Heap.get?_push_size _ rfl)))))
 rw [e5,e4,e3] at g6
 rw [e4] at g5
 rw [e3,e2,e1] at g4
 rw [e2] at g3
 rw [e1] at g2
 have q':=q (zh6 s.heap l1 l2 l3) g6 g4 g5 ⟨_,g1,rfl,rfl⟩ ⟨_,g2,rfl,rfl⟩ ⟨_,g3,rfl,rfl⟩ fun c o e=>Heap.get?_push_of_some _ (Heap.get?_push_of_some _ (Heap.get?_push_of_some _ (Heap.get?_push_of_some _ (Heap.get?_push_of_some _ (Heap.get?_push_of_some _ e)))))
 rw [e5]
 exact ⟨⟨_,g6,rfl⟩,q'⟩
end
def Itz3(K : PySem.W.Frag)(a b c : Addr) : It :=
  ⟨fun i H => ∃ xs ys us x y u, SqT K H a xs /\ SqT K H b ys /\ SqL K H c us /\ xs[i]? = some x /\ ys[i]? = some y /\ us[i]? = some u,
   fun i H v H' => ∃ p x y u, v = .ref p /\ H p = none /\ H' = upd H p (.tup [x, y, u]) /\ (∀ xs, SqT K H a xs -> xs[i]? = some x) /\ (∀ ys, SqT K H b ys -> ys[i]? = some y) /\ ∀ us, SqL K H c us -> us[i]? = some u,
   fun i H => ∃ xs, SqT K H a xs /\ xs.length = i⟩
theorem turn_zip3{P:Program}{w:World}{K:PySem.W.Frag}{elts:List Expr}{kk:Nat}{pos:Pos}(a b c z TI TO i1 i2 i3:Addr)(D:Zap z TI TO i1 i2 i3 a b c) :
  Turn P w K (.Tuple elts kk pos) (Itz3 K a b c) [z,TI,TO,i1,i2,i3] z (fun i h=>IsZip h z TI TO .none/\IsTrip h TI (.ref i1) (.ref i2) (.ref i3)/\(∃ c d e,IsTrip h TO c d e)/\h.IsTupleIter i1 a i/\h.IsTupleIter i2 b i/\h.IsListIter i3 c i) where
 mem:=by simp
 obj:=fun i h st c hc=>by
  obtain ⟨h1,h2,⟨x,y,u,h3⟩,⟨o4,e4,c4,d4⟩,⟨o5,e5,c5,d5⟩,⟨o6,e6,c6,d6⟩⟩:=st
  have hc':c=z\/c=TI\/c=TO\/c=i1\/c=i2\/c=i3:=by simpa using hc
  rcases hc' with rfl | rfl | rfl | rfl | rfl | rfl
  ·exact ⟨_,h1,fun v q=>by cases q⟩
  ·exact ⟨_,h2,fun v q=>by cases q⟩
  ·exact ⟨_,h3,fun v q=>by cases q⟩
  ·exact ⟨o4,e4,fun v q=>by rw [d4] at q;cases q⟩
  ·exact ⟨o5,e5,fun v q=>by rw [d5] at q;cases q⟩
  ·exact ⟨o6,e6,fun v q=>by rw [d6] at q;cases q⟩
 keep:=fun i h h' st k=>by
  obtain ⟨h1,h2,⟨x,y,u,h3⟩,⟨o4,e4,r4⟩,⟨o5,e5,r5⟩,⟨o6,e6,r6⟩⟩:=st
  exact ⟨k z (by simp) _ h1,k TI (by simp) _ h2,⟨x,y,u,k TO (by simp) _ h3⟩,⟨o4,k i1 (by simp) _ e4,r4⟩,⟨o5,k i2 (by simp) _ e5,r5⟩,⟨o6,k i3 (by simp) _ e6,r6⟩⟩
 item:=by
  intro X hP hw hK hc i pins s σ H E I hf st hg
  subst hP hw hK
  obtain ⟨xs,ys,us,x,y,u,hq1,hq2,hq3,hx,hy,hu⟩:=hg
  obtain ⟨its1,rv1,p1,hz1⟩:=I.tuple hq1
  obtain ⟨its2,rv2,p2,hz2⟩:=I.tuple hq2
  obtain ⟨its3,rv3,p3,hz3⟩:=I.list hq3
  obtain ⟨u1,hu1,ru1⟩:=rv1.get hx
  obtain ⟨u2,hu2,ru2⟩:=rv2.get hy
  obtain ⟨u3,hu3,ru3⟩:=rv3.get hu
  obtain ⟨sz,sTI,⟨c0,d0,e0,sTO⟩,s1,s2,s3⟩:=st
  have hT:s.TypeIs (.ref z) "zip" := ⟨_,sz,rfl⟩
  have n1:a≠i1:=fun e=>D.a1 (by simp [e])
  have n2:b≠i2:=fun e=>D.a2 (by simp [e])
  have n3:c≠i3:=fun e=>D.a3 (by simp [e])
  have W1:=wkr_tup (prog:=X.prog) (w:=X.w) i1 a n1 its1.toArray
  have W2:=wkr_tup (prog:=X.prog) (w:=X.w) i2 b n2 its2.toArray
  have W3:=wkr_lst (prog:=X.prog) (w:=X.w) i3 c n3 its3.toArray
  unfold pyNext;refine wpAny_bind (wpAny_attempt (wpAny_callSpecial?_slot (name:=Str.ofString "__next__") hT F.slot_zip_next (wpAny_call_entry F.slot_zip_next hT F.entry_zip_next (zip3_item D W1 W2 W3 sz sTI sTO ⟨s1,p1⟩ ⟨s2,p2⟩ ⟨s3,p3.isList⟩ (by have:=(List.getElem?_eq_some_iff.mp hu1).1;simpa using this) (by have:=(List.getElem?_eq_some_iff.mp hu2).1;simpa using this) (by have:=(List.getElem?_eq_some_iff.mp hu3).1;simpa using this) fun v1 v2 v3 h' px py pu b1 b2 b3 b4 b4' b5 hk=>wpAny_pure ?_) (F.args_zip_next_1 _))))
  obtain rfl:v1=u1:=by have px':its1[i]? = some v1:=(by simpa using px);rw [hu1] at px';exact (Option.some.inj px').symm
  obtain rfl:v2=u2:=by have py':its2[i]? = some v2:=(by simpa using py);rw [hu2] at py';exact (Option.some.inj py').symm
  obtain rfl:v3=u3:=by have pu':its3[i]? = some v3:=(by simpa using pu);rw [hu3] at pu';exact (Option.some.inj pu').symm
  have lt:∀ {c o},s.heap.get? c=some o->c≠s.heap.objs.size:=fun e=>Nat.ne_of_lt (Heap.lt_size e)
  have I0:Inv X pins σ (upd H s.heap.objs.size (.tup [x,y,u])) { s with heap:=s.heap.push { cls:=.type "tuple",data:=.seq #[v1,v2,v3] },toks:=s.toks } :=
   I.laid (a:=s.heap.objs.size) (o:=.tup [x,y,u]) (t':=s.toks) (fun b u e=>Heap.get?_push_of_some _ e) (Nat.le_refl _) ⟨(by show 3<=sizeLine;decide),[v1,v2,v3],.cons ru1 (.cons ru2 (.cons ru3 .nil)),_,Heap.get?_push_size _ rfl,rfl,_,rfl⟩
  have hnone:∀ c∈[z,TI,TO,i1,i2,i3],(upd H s.heap.objs.size (.tup [x,y,u])) c=none:=fun c hc'=>by
   have hne:c≠s.heap.objs.size:=by
    have hc'':c=z\/c=TI\/c=TO\/c=i1\/c=i2\/c=i3:=by simpa using hc'
    rcases hc'' with rfl | rfl | rfl | rfl | rfl | rfl
    ·exact lt sz
    ·exact lt sTI
    ·exact lt sTO
    ·obtain ⟨_,e,_⟩:=s1;exact lt e
    ·obtain ⟨_,e,_⟩:=s2;exact lt e
    ·obtain ⟨_,e,_⟩:=s3;exact lt e
   rw [z_j hne]
   exact (hf c hc').1
  have hf':∀ c∈[z,TI,TO,i1,i2,i3],FpOk X pins (upd H s.heap.objs.size (.tup [x,y,u])) c:=fun c hc'=>⟨hnone c hc',(hf c hc').2⟩
  have kk1:∀ c o,c∉[z,TO,i1,i2,i3]->(s.heap.push { cls:=.type "tuple",data:=.seq #[v1,v2,v3] }).get? c=some o->h'.get? c=some o:=fun c o hn e=>by
   rcases Heap.get?_push_cases e with ⟨rfl,rfl⟩ | e'
   ·exact b5
   ·exact hk c o hn e'
  have kk2:∀ c∈[z,TO,i1,i2,i3],FpOk X pins (upd H s.heap.objs.size (.tup [x,y,u])) c:=fun c hc'=>hf' c (by
   have hc'':c=z\/c=TO\/c=i1\/c=i2\/c=i3:=by simpa using hc'
   rcases hc'' with rfl | rfl | rfl | rfl | rfl<;>simp)
  have I1:=I0.turnedL (h':=h') (t':=s.toks) (ch:=[z,TO,i1,i2,i3]) kk1 kk2
  refine ⟨_,rfl,wpAny_letOwnedTupleGo_zip b1 fun h2 c1 c2=>?_⟩
  have I2:=I1.turnedL (h':=h2) (t':=s.toks) (ch:=[z]) (fun c o hn e=>(c2.2 c (fun q=>hn (by simp [q]))).trans e) (fun c hc'=>hf' c (by rw [List.mem_singleton.mp hc'];simp))
  refine ⟨.ref s.heap.objs.size,_,I2,rfl,⟨_,x,y,u,rfl,I.hok.fresh (Nat.le_refl _),rfl,fun xs' q=>by rw [I.tuple_inj q hq1];exact hx,fun ys' q=>by rw [I.tuple_inj q hq2];exact hy,fun us' q=>by rw [I.list_inj q hq3];exact hu⟩,?_,hnone⟩
  have mv:∀ c o,c≠z->h'.get? c=some o->h2.get? c=some o:=fun c o hn e=>(c2.2 c hn).trans e
  obtain ⟨⟨o3,e3,r3⟩,_⟩:=b3
  obtain ⟨⟨o4,e4,r4⟩,_⟩:=b4
  obtain ⟨⟨o5,e5,r5⟩,_⟩:=b4'
  have nd:=D.nd
  simp only [List.nodup_cons,List.mem_cons,List.not_mem_nil,or_false,not_or,not_false_eq_true,List.nodup_nil,and_true] at nd
  obtain ⟨⟨zTI,zTO,zi1,zi2,zi3⟩,⟨TITO,TIi1,TIi2,TIi3⟩,_⟩:=nd
  exact ⟨c1,mv _ _ (Ne.symm zTI) (hk _ _ (by simp [Ne.symm zTI,TITO,TIi1,TIi2,TIi3]) sTI),⟨_,_,_,mv _ _ (Ne.symm zTO) b2⟩,⟨o3,mv _ _ (Ne.symm zi1) e3,r3⟩,⟨o4,mv _ _ (Ne.symm zi2) e4,r4⟩,⟨o5,mv _ _ (Ne.symm zi3) e5,r5⟩⟩
 done:=by
  intro X hP hw hK hc i pins s σ H E I hf st hg
  subst hP hw hK
  obtain ⟨xs,hq1,hx⟩:=hg
  obtain ⟨its1,rv1,p1,hz1⟩:=I.tuple hq1
  have l1:=rv1.length
  obtain ⟨sz,sTI,⟨c,d,e0,sTO⟩,s1,s2,s3⟩:=st
  have hT:s.TypeIs (.ref z) "zip" := ⟨_,sz,rfl⟩
  have n1:a≠i1:=fun e=>D.a1 (by simp [e])
  have W1:=wkr_tup (prog:=X.prog) (w:=X.w) i1 a n1 its1.toArray
  have ei:its1.toArray.size=i:=by simp;lia
  unfold pyNext;refine wpAny_bind (wpAny_attempt (wpAny_callSpecial?_slot (name:=Str.ofString "__next__") hT F.slot_zip_next (wpAny_call_entry F.slot_zip_next hT F.entry_zip_next (zip3_end (I.ok.hd hc) D W1 sz sTI (by rw [ei];exact ⟨s1,p1⟩) fun h' e hk ⟨oe,e1,e2⟩=>?_) (F.args_zip_next_1 _))))
  refine wpAny_bind (wpAny_isInstance (T := "StopIteration") (b:=true) ⟨oe,e1,e2⟩ isSubtype_stop (wpAny_pure ⟨rfl,I.turnedL (t':=s.toks) (ch:=[z,TO,i1,i2,i3]) hk fun c hc'=>hf c ?_⟩))
  have hc'':c=z\/c=TO\/c=i1\/c=i2\/c=i3:=by simpa using hc'
  rcases hc'' with rfl | rfl | rfl | rfl | rfl<;>simp
 self:=fun _ _ _ _ _ st h=>wpAny_pyIter_zip st.1 h
def iZip3(K:PySem.W.Frag)(ta:TA):TI:=fun σ H R=>ta σ H fun vs H1=>∃ a b c,vs=[.ref a,.ref b,.ref c]/\(∃ xs,SqT K H1 a xs)/\(∃ ys,SqT K H1 b ys)/\(∃ us,SqL K H1 c us)/\R (Itz3 K a b c) H1
theorem pi_zip3{X:Cx}{elts:List Expr}{kk:Nat}{tpos:Pos}{a b c:Expr}{ta:TA}{p pos:Pos}(hg:Gl X "zip")(hm:X.mg "zip" = none)(ha:PA X [a,b,c] ta)(hs:starEach [a,b,c] X.env=[(false,eval a X.env),(false,eval b X.env),(false,eval c X.env)]:=by rfl)(hs2:starEach [b,c] X.env=[(false,eval b X.env),(false,eval c X.env)]:=by rfl) :
  PI X (.Tuple elts kk tpos) (.Call (.Name "zip" p) [a,b,c] [] pos) (iZip3 X.K ta):=by
 intro pins s σ H R I h
 refine Call_ (ld_blt I hg hm PyProof.Rows.boot_zip (PyProof.Rows.callWith_type1 (thn (ha pos pins s σ H _ I h) fun us s1 ⟨vs,H1,I1,r1,q1⟩=>?_) (by rw [hs,hs2]) (by rw [hs2];rfl)))
 obtain ⟨l1,l2,l3,e,⟨xs,hq1⟩,⟨ys,hq2⟩,⟨us,hq3⟩,q⟩:=q1
 subst e
 cases r1 with
 | cons r rr =>
  cases rr with
  | cons r' rr =>
   cases rr with
   | cons r'' rr =>
    cases rr
    cases r
    cases r'
    cases r''
    obtain ⟨its1,rv1,p1,hz1⟩:=I1.tuple hq1
    obtain ⟨its2,rv2,p2,hz2⟩:=I1.tuple hq2
    obtain ⟨its3,rv3,p3,hz3⟩:=I1.list hq3
    have hlt1 : @LT.lt Nat _ l1 s1.heap.objs.size:=by obtain ⟨o,e,_⟩:=p1;exact Heap.lt_size e
    have hlt2 : @LT.lt Nat _ l2 s1.heap.objs.size:=by obtain ⟨o,e,_⟩:=p2;exact Heap.lt_size e
    have hlt3 : @LT.lt Nat _ l3 s1.heap.objs.size:=by obtain ⟨o,e,_⟩:=p3.isList;exact Heap.lt_size e
    refine zip3_call p1 p2 p3.isList fun h' hz hTI hTO hi1 hi2 hi3 hk=>wpAny_pyIter_zip hz ?_
    have D:Zap (s1.heap.objs.size+5) (s1.heap.objs.size+3) (s1.heap.objs.size+4) s1.heap.objs.size (s1.heap.objs.size+1) (s1.heap.objs.size+2) l1 l2 l3:=by
     have ap:∀ (I l:Nat),l<I->l∉[I+5,I+3,I+4,I,I+1,I+2]:=fun I l h=>by simp only [List.mem_cons,List.not_mem_nil,or_false,not_or];lia
     have nd:∀ I:Nat,[I+5,I+3,I+4,I,I+1,I+2].Nodup:=fun I=>by simp only [List.nodup_cons,List.mem_cons,List.not_mem_nil,or_false,not_or,not_false_eq_true,List.nodup_nil,and_true];lia
     exact ⟨nd _,ap _ _ hlt1,ap _ _ hlt2,ap _ _ hlt3⟩
    refine ⟨_,[s1.heap.objs.size+5,s1.heap.objs.size+3,s1.heap.objs.size+4,s1.heap.objs.size,s1.heap.objs.size+1,s1.heap.objs.size+2],_,_,H1,rfl,I1.kept (t':=s1.toks) hk,turn_zip3 l1 l2 l3 _ _ _ _ _ _ D,⟨hz,hTI,⟨_,_,_,hTO⟩,hi1,hi2,hi3⟩,fun c hc=>?_,q⟩
    have hc':c=s1.heap.objs.size+5\/c=s1.heap.objs.size+3\/c=s1.heap.objs.size+4\/c=s1.heap.objs.size\/c=s1.heap.objs.size+1\/c=s1.heap.objs.size+2:=by simpa using hc
    have hle : @LE.le Nat _ s1.heap.objs.size c:=by
     rcases hc' with rfl | rfl | rfl | rfl | rfl | rfl
     ·exact Nat.le_add_right _ _
     ·exact Nat.le_add_right _ _
     ·exact Nat.le_add_right _ _
     ·exact Nat.le_refl _
     ·exact Nat.le_add_right _ _
     ·exact Nat.le_add_right _ _
    exact I1.fpOk hle (I1.hok.fresh hle)
theorem for_zip3{K:PySem.W.Frag}{a b c:Addr}{xs ys us:List V}{g:TG}{tb:TS}{D:Ends}{σ:St}{H:Hp}(Pv:Nat->St->Hp->Prop)(h0:Pv 0 σ H)(hl:∀ i σ H,Pv i σ H->SqT K H a xs/\SqT K H b ys/\SqL K H c us)(he:xs.length=ys.length)(he2:xs.length=us.length)
  (hs:∀ i x y u p σ H,xs[i]? = some x->ys[i]? = some y->us[i]? = some u->Pv i σ H->H p=none->g (.ref p) σ (upd H p (.tup [x,y,u])) fun σ2 H2=>tb { D with nx:=Pv (i+1),ct:=Pv (i+1),bk:=D.nx } σ2 H2) (hd:∀ σ H,Pv xs.length σ H->D.nx σ H) :
  ∃ W:Nat->Nat->St->Hp->Prop,(∃ m,W 0 m σ H)/\∀ i m σ H,W i m σ H ->
   ((Itz3 K a b c).stop i H/\D.nx σ H)\/((Itz3 K a b c).go i H/\∃ N:St->Hp->Prop,(∀ σ' H',N σ' H'->∃ m',m'<m/\W (i+1) m' σ' H')/\∀ x H',(Itz3 K a b c).yld i H x H'->g x σ H' fun σ2 H2=>tb { D with nx:=N,ct:=N,bk:=D.nx } σ2 H2):=by
 refine ⟨fun i m σ H=>m=xs.length-i/\i<=xs.length/\Pv i σ H,⟨xs.length,by simp,Nat.zero_le _,h0⟩,?_⟩
 rintro i m σ H ⟨rfl,hi,p⟩
 obtain ⟨q1,q2,q3⟩:=hl i σ H p
 by_cases hlt:i<xs.length
 ·have hlt2:i<ys.length:=by lia
  have hlt3:i<us.length:=by lia
  refine .inr ⟨⟨xs,ys,us,xs[i],ys[i],us[i],q1,q2,q3,by simp [hlt],by simp [hlt2],by simp [hlt3]⟩,Pv (i+1),fun σ' H' p'=>⟨xs.length-(i+1),by lia,rfl,hlt,p'⟩,fun v H' y=>?_⟩
  obtain ⟨r,x,y,u,rfl,hn,rfl,e1,e2,e3⟩:=y
  exact hs i x y u r σ H (e1 xs q1) (e2 ys q2) (e3 us q3) p hn
 ·have e:i=xs.length:=by lia
  subst e
  exact .inl ⟨⟨xs,q1,rfl⟩,hd σ H p⟩
open PySem
def wireD(x:Str):PyData:=.tuple [.str "wire",.str x]
def renF(a:Str):Nat->PyData->PyData
 | 0,d=>d
 | n+1,.tuple (.str z::r)=>if z = "wire" then (match r with | [.str x]=>wireD (a++x) | _=>.tuple (.str z::r)) else .tuple (.str z::(r.take (formK z-1)++(r.drop (formK z-1)).map (renF a n)))
 | _+1,d=>d
def SayD:Nat->PyData->Prop
 | 0,_=>False
 | n+1,d=>(∃ x:Str,d=wireD x/\x.length<=1000/\PyData.strOk x=true) \/
  ∃ (z:Str) (hd subs:List PyData),z∈words/\z ≠ "wire" /\ formK z=hd.length+1/\hd.length<=2/\subs.length<=3/\(∀ e∈hd,(∃ i,e = .int i)\/∃ (m:Int) (ns:List Int),ns.length<=100/\e = .tuple ((m::ns).map PyData.int))/\d = .tuple (.str z::(hd++subs))/\∀ s∈subs,SayD n s
theorem renF_wire(a x:Str)(n:Nat):renF a (n+1) (wireD x)=wireD (a++x):=by
 show (if ("wire" : Str) = "wire" then _ else _)=_
 rw [if_pos rfl]
theorem renF_node(a z:Str){hd subs:List PyData}(n:Nat)(hz:z ≠ "wire")(hk:formK z=hd.length+1):renF a (n+1) (.tuple (.str z::(hd++subs))) = .tuple (.str z::(hd++subs.map (renF a n))):=by
 show (if z = "wire" then _ else _)=_
 rw [if_neg hz,hk,Nat.add_sub_cancel,List.take_left,List.drop_left]
theorem SayD.ren{a:Str}(ha:a.length<=90000):∀ {n:Nat} {d:PyData},SayD n d->Ren a n d (renF a n d)
 | 0,_,h=>h.elim
 | n+1,d,h=>by
  rcases h with ⟨x,rfl,hx,_⟩ | ⟨z,hd,subs,h1,h2,h3,h4,h5,h6,rfl,h7⟩
  ·rw [renF_wire]
   exact .inl ⟨x,rfl,rfl,by rw [Str.length_append];lia⟩
  ·rw [renF_node a z n h2 h3]
   refine .inr ⟨z,hd,subs,subs.map (renF a n),h1,h2,h3,h4,h5,rfl,rfl,?_⟩
   clear h5
   induction subs with
   | nil=>exact .nil
   | cons s r ih=>exact .cons (SayD.ren ha (h7 s List.mem_cons_self)) (ih fun t ht=>h7 t (List.mem_cons_of_mem _ ht))
theorem SayD.noL:∀ {n:Nat} {d:PyData},SayD n d->L2.noL d=true
 | 0,_,h=>h.elim
 | n+1,d,h=>by
  rcases h with ⟨x,rfl,_,_⟩ | ⟨z,hd,subs,h1,h2,h3,h4,h5,h6,rfl,h7⟩
  ·rfl
  ·show noLs (_::(hd++subs))=true
   simp only [noLs,L2.noL,Bool.true_and,noLs_app,Bool.and_eq_true]
   refine ⟨z_u fun e he=>?_,z_u fun s hs=>(h7 s hs).noL⟩
   rcases h6 e he with ⟨i,rfl⟩ | ⟨m,ns,_,rfl⟩
   ·rfl
   ·exact noLs_ints (m::ns)
inductive Rw where
 | wire (x:Str) (w:Int) (s:PyData)
 | box (x:Str) (w f:Int) (s:PyData)
 | use (c:Option Nat) (lb nm:Str) (ss:List PyData) (os:List Str)
def Rw.dat:Rw->PyData
 | .wire x w s=>.tuple [.str "wire",.str x,.int w,s]
 | .box x w f s=>.tuple [.str "box",.str x,.int w,.int f,s]
 | .use none lb nm ss os=>.tuple [.str "part",.str lb,.str nm,.tuple ss,.tuple (os.map PyData.str)]
 | .use (some n) lb nm ss os=>.tuple [.str "times",.int n,.str lb,.str nm,.tuple ss,.tuple (os.map PyData.str)]
def doorD(p:Str×Int):PyData:=.tuple [.str p.1,.int p.2]
structure Pt where
 nm:Str
 ins:List (Str×Int)
 outs:List (Str×Int)
 rows:List Rw
def Pt.dat(P:Pt):PyData:=.tuple [.str P.nm,.tuple (P.ins.map doorD),.tuple (P.outs.map doorD),.tuple (P.rows.map Rw.dat)]
def digT(k:Nat):Str:=toString (k:Int)
def frnt(a lb:Str):Option Nat->List Str
 | none=>[a++lb ++ "."]
 | some n=>(List.range n).map fun k=>a++lb ++ "." ++ digT k ++ "."
def otW(q:Pt)(f:Str):List PyData:=q.outs.map fun o=>wireD (f++o.1)
def inW(q:Pt)(f:Str)(ss:List PyData):List Rw:=(q.ins.zip ss).map fun p=>Rw.wire (f++p.1.1) p.1.2 p.2
def copF(rec:Pt->Str->List Rw)(q:Pt):List Str->List PyData->List Rw
 | [],_=>[]
 | f::fs,ss=>inW q f ss++rec q f++copF rec q fs (otW q f)
def lastS(q:Pt):List Str->List PyData->List PyData
 | [],ss=>ss
 | f::fs,_=>lastS q fs (otW q f)
theorem copF_snoc{rec:Pt->Str->List Rw}{q:Pt}:∀ {fs:List Str} {f:Str} {ss:List PyData},copF rec q (fs++[f]) ss=copF rec q fs ss++(inW q f (lastS q fs ss)++rec q f)
 | [],f,ss=>by
  show inW q f ss++rec q f++[]=[]++_
  rw [List.append_nil]
  rfl
 | g::fs,f,ss=>by
  show inW q g ss++rec q g++copF rec q (fs++[f]) (otW q g)=inW q g ss++rec q g++copF rec q fs (otW q g)++_
  rw [copF_snoc,List.append_assoc (inW q g ss++rec q g)]
  rfl
theorem lastS_snoc{q:Pt}:∀ {fs:List Str} {f:Str} {ss:List PyData},lastS q (fs++[f]) ss=otW q f
 | [],f,ss=>rfl
 | g::fs,f,ss=>lastS_snoc (fs:=fs)
def useF(rec:Pt->Str->List Rw)(a:Str)(q:Pt)(c:Option Nat)(lb:Str)(ss:List PyData)(os:List Str):List Rw :=
 copF rec q (frnt a lb c) ss++(os.zip (q.outs.zip (lastS q (frnt a lb c) ss))).map fun p=>Rw.wire (a++p.1) p.2.1.2 p.2.2
def rowF(lk:Str->Option Pt)(rec:Pt->Str->List Rw)(a:Str):Rw->List Rw
 | .wire x w s=>[.wire (a++x) w (renF a 6 s)]
 | .box x w f s=>[.box (a++x) w f (renF a 6 s)]
 | .use c lb nm ss os=>match lk nm with
  | none=>[]
  | some q=>useF rec a q c lb (ss.map (renF a 6)) os
def rowsF(lk:Str->Option Pt):Nat->Pt->Str->List Rw
 | 0,_,_=>[]
 | n+1,P,a=>P.rows.flatMap (rowF lk (rowsF lk n) a)
def RwOk(lk:Str->Option Pt)(nxt:Pt->Nat->Prop)(L:Nat):Rw->Prop
 | .wire x _ s=>x.length<=100/\SayD 6 s
 | .box x _ _ s=>x.length<=100/\SayD 6 s
 | .use c lb nm ss os=>lb.length<=100/\(∀ s∈ss,SayD 6 s)/\(∀ o∈os,o.length<=100)/\(∀ n,c=some n->n<=8)/\∀ q,lk nm=some q->ss.length=q.ins.length/\os.length=q.outs.length/\(∀ n,c=some n->1<=n/\q.ins.length=q.outs.length)/\nxt q (L+200)
def POk(lk:Str->Option Pt):Nat->Pt->Nat->Prop
 | 0,_,_=>False
 | n+1,P,L=>L<=10000/\(∀ d∈P.ins,d.1.length<=100)/\(∀ d∈P.outs,d.1.length<=100)/\P.ins.length<=100/\P.outs.length<=100/\P.rows.length<=100/\∀ r∈P.rows,RwOk lk (POk lk n) L r
def Prts(H:Hp)(kvs:List (Key×V))(lk:Str->Option Pt):Prop:=∀ x,(lk x=none/\valV kvs (.inr x)=none)\/∃ q p,lk x=some q/\valV kvs (.inr x)=some (.ref p)/\Dat H q.dat (.ref p)
theorem Prts.same{H H':Hp}{kvs:List (Key×V)}{lk:Str->Option Pt}(h:Prts H kvs lk)(s:Same H H'):Prts H' kvs lk:=fun x=>by
 rcases h x with z | ⟨q,p,h1,h2,h3⟩
 ·exact .inl z
 ·exact .inr ⟨q,p,h1,h2,h3.same s⟩
def sp_rowsG(n:Nat):Sp:=fun vs H Q _=>∃ (P:Pt) (v:V) (a:Str) (d:Addr) (kvs:List (Key×V)) (lk:Str->Option Pt),vs=[v,.str a,.ref d]/\Dat H P.dat v/\H d=some (.dK kvs)/\Prts H kvs lk/\POk lk n P a.length/\(rowsF lk n P a).length<=10000 /\
 ∀ p xs H',H p=none->Same H H'->H' p=some (.lst xs)->Dats H' ((rowsF lk n P a).map Rw.dat) xs->Q (.ref p) H'
def sp_useG(n:Nat):Sp:=fun vs H Q _=>∃ (v:V) (a:Str) (c:Option Nat) (lb nm:Str) (ss:List PyData) (os:List Str) (q:Pt) (d:Addr) (kvs:List (Key×V)) (lk:Str->Option Pt),vs=[v,.str a,.ref d]/\Dat H (Rw.use c lb nm ss os).dat v/\H d=some (.dK kvs)/\Prts H kvs lk/\lk nm=some q/\RwOk lk (POk lk n) a.length (.use c lb nm ss os)/\a.length<=10000/\(useF (rowsF lk n) a q c lb (ss.map (renF a 6)) os).length<=10000 /\
 ∀ p xs H',H p=none->Same H H'->H' p=some (.lst xs)->Dats H' ((useF (rowsF lk n) a q c lb (ss.map (renF a 6)) os).map Rw.dat) xs->Q (.ref p) H'
def sp_fronts:Sp:=fun vs H Q _=>∃ (v:V) (a:Str) (c:Option Nat) (lb nm:Str) (ss:List PyData) (os:List Str),vs=[v,.str a]/\Dat H (Rw.use c lb nm ss os).dat v/\a.length<=10000/\lb.length<=100/\(∀ n,c=some n->n<=8)/\∀ p H',H p=none->Same H H'->H' p=some (.lst ((frnt a lb c).map V.str))->Q (.ref p) H'
def brB(lk:Str->Option Pt)(P:Pt):Bool:=decide (0<P.ins.length) || P.rows.any fun r=>match r with
 | .use _ _ nm _ _=>(lk nm).isSome
 | _=>true
def sp_bringsG:Sp:=fun vs H Q _=>∃ (P:Pt) (v:V) (d:Addr) (kvs:List (Key×V)) (lk:Str->Option Pt),vs=[v,.ref d]/\Dat H P.dat v/\H d=some (.dK kvs)/\Prts H kvs lk/\P.rows.length<=1000/\∀ H',Same H H'->Q (.bl (brB lk P)) H'
def lkP(lk:Str->Option Pt)(P:Pt):Str->Option Pt:=if brB lk P=true then fun x=>if x=P.nm then some P else lk x else lk
def lkA(Ps:List Pt):Str->Option Pt:=Ps.foldl lkP fun _=>none
def sp_spreadG(n:Nat):Sp:=fun vs H Q _=>∃ (pl:Addr) (vs':List V) (Ps:List Pt) (P:Pt),vs=[.ref pl]/\H pl=some (.lst vs')/\Dats H (Ps.map Pt.dat) vs'/\Ps.getLast? = some P/\Ps.length<=100/\(∀ q∈Ps,q.rows.length<=1000)/\POk (lkA Ps) n P 0/\(rowsF (lkA Ps) n P "").length<=10000 /\
 ∀ t l1 l2 l3 x1 x2 x3 H',Same H H'->(H l1=none/\H l2=none/\H l3=none)->(l1≠l2/\l1≠l3/\l2≠l3)->H' t=some (.tup [.ref l1,.ref l2,.ref l3])->H' l1=some (.lst x1)->H' l2=some (.lst x2)->H' l3=some (.lst x3)->Dats H' (P.ins.map doorD) x1->Dats H' (P.outs.map doorD) x2->Dats H' ((rowsF (lkA Ps) n P "").map Rw.dat) x3->Q (.ref t) H'
theorem noL_ren{a:Str}:∀ {n:Nat} {d:PyData},SayD n d->L2.noL (renF a n d)=true
 | 0,_,h=>h.elim
 | n+1,d,h=>by
  rcases h with ⟨x,rfl,_,_⟩ | ⟨z,hd,subs,h1,h2,h3,h4,h5,h6,rfl,h7⟩
  ·rw [renF_wire];rfl
  ·rw [renF_node a z n h2 h3]
   show noLs (_::(hd++subs.map (renF a n)))=true
   simp only [noLs,L2.noL,Bool.true_and,noLs_app,Bool.and_eq_true]
   refine ⟨z_u fun e he=>?_,z_u fun s hs=>?_⟩
   ·rcases h6 e he with ⟨i,rfl⟩ | ⟨m,ns,_,rfl⟩
    ·rfl
    ·exact noLs_ints (m::ns)
   ·obtain ⟨u,hu,rfl⟩:=List.mem_map.mp hs
    exact noL_ren (h7 u hu)
theorem x_o{x:Str}{w:Int}{s:PyData}(h:noL s=true):noL (Rw.wire x w s).dat=true:=by
 show noLs [_,_,_,s]=true
 simp [noLs,noL,h]
theorem noL_box{x:Str}{w f:Int}{s:PyData}(h:noL s=true):noL (Rw.box x w f s).dat=true:=by
 show noLs [_,_,_,_,s]=true
 simp [noLs,noL,h]
theorem noL_use{c:Option Nat}{lb nm:Str}{ss:List PyData}{os:List Str}(h:∀ s∈ss,noL s=true):noL (Rw.use c lb nm ss os).dat=true:=by
 have ho:noLs (os.map PyData.str)=true:=z_u fun d hd=>by
  obtain ⟨o,_,rfl⟩:=List.mem_map.mp hd
  rfl
 cases c with
 | none =>
  show noLs [_,_,_,.tuple ss,.tuple (os.map PyData.str)]=true
  simp only [noLs,noL,Bool.true_and,Bool.and_true,Bool.and_eq_true]
  exact ⟨z_u h,ho⟩
 | some n =>
  show noLs [_,_,_,_,.tuple ss,.tuple (os.map PyData.str)]=true
  simp only [noLs,noL,Bool.true_and,Bool.and_true,Bool.and_eq_true]
  exact ⟨z_u h,ho⟩
theorem otW_noL{q:Pt}{f:Str}:∀ s∈otW q f,noL s=true:=fun s hs=>by
 obtain ⟨o,_,rfl⟩:=List.mem_map.mp hs
 rfl
theorem inW_noL{q:Pt}{f:Str}{ss:List PyData}(hs:∀ s∈ss,noL s=true):∀ r∈inW q f ss,noL r.dat=true:=fun r hr=>by
 obtain ⟨p,hp,rfl⟩:=List.mem_map.mp hr
 exact x_o (hs _ (List.of_mem_zip hp).2)
theorem lastS_noL{q:Pt}:∀ {fs:List Str} {ss:List PyData},(∀ s∈ss,noL s=true)->∀ s∈lastS q fs ss,noL s=true
 | [],_,h=>h
 | f::fs,_,_=>lastS_noL (fs:=fs) otW_noL
theorem copF_noL{rec:Pt->Str->List Rw}{q:Pt}:∀ {fs:List Str} {ss:List PyData},(∀ s∈ss,noL s=true)->(∀ f∈fs,∀ r∈rec q f,noL r.dat=true)->∀ r∈copF rec q fs ss,noL r.dat=true
 | [],_,_,_,_,h=>nomatch h
 | f::fs,ss,h1,h2,r,hr=>by
  rcases List.mem_append.mp hr with hr | hr
  ·rcases List.mem_append.mp hr with hr | hr
   ·exact inW_noL h1 r hr
   ·exact h2 f List.mem_cons_self r hr
  ·exact copF_noL otW_noL (fun g hg=>h2 g (List.mem_cons_of_mem _ hg)) r hr
theorem use_noL{rec:Pt->Str->List Rw}{a:Str}{q:Pt}{c:Option Nat}{lb:Str}{ss:List PyData}{os:List Str}(hs:∀ s∈ss,noL s=true)(hr:∀ f∈frnt a lb c,∀ r∈rec q f,noL r.dat=true):∀ r∈useF rec a q c lb ss os,noL r.dat=true:=by
 intro r h
 rcases List.mem_append.mp h with h | h
 ·exact copF_noL hs hr r h
 ·obtain ⟨p,hp,rfl⟩:=List.mem_map.mp h
  exact x_o (lastS_noL hs _ (List.of_mem_zip (List.of_mem_zip hp).2).2)
theorem rowF_none{lk:Str->Option Pt}{rec:Pt->Str->List Rw}{a:Str}{c:Option Nat}{lb nm:Str}{ss:List PyData}{os:List Str}(e:lk nm=none):rowF lk rec a (.use c lb nm ss os)=[]:=by
 show (match lk nm with | none=>[] | some q=>useF rec a q c lb (ss.map (renF a 6)) os)=_
 rw [e]
theorem x_g{lk:Str->Option Pt}{rec:Pt->Str->List Rw}{a:Str}{c:Option Nat}{lb nm:Str}{ss:List PyData}{os:List Str}{q:Pt}(e:lk nm=some q):rowF lk rec a (.use c lb nm ss os)=useF rec a q c lb (ss.map (renF a 6)) os:=by
 show (match lk nm with | none=>[] | some q=>useF rec a q c lb (ss.map (renF a 6)) os)=_
 rw [e]
theorem dig_len:∀ k,k<8->(digT k).length=1:=by decide +kernel
theorem frnt_len{a lb:Str}{c:Option Nat}(h:∀ n,c=some n->n<=8):∀ f∈frnt a lb c,f.length<=a.length+lb.length+3:=by
 intro f hf
 cases c with
 | none =>
  rw [List.mem_singleton.mp hf,Str.length_append,Str.length_append]
  show _+_+1<=_
  lia
 | some n =>
  obtain ⟨k,hk,rfl⟩:=List.mem_map.mp hf
  have h1:=h n rfl
  have h2:=dig_len k (by have:=List.mem_range.mp hk;lia)
  rw [Str.length_append,Str.length_append,Str.length_append,Str.length_append,h2]
  show _+_+1+1+1<=_
  lia
theorem rows_noL{lk:Str->Option Pt}:∀ {n:Nat} {P:Pt} {L:Nat} {a:Str},POk lk n P L->∀ r∈rowsF lk n P a,noL r.dat=true
 | 0,_,_,_,h=>h.elim
 | n+1,P,L,a,h=>by
  obtain ⟨_,_,_,_,_,_,h⟩:=h
  intro r hr
  obtain ⟨s,hs,hr⟩:=List.mem_flatMap.mp hr
  have hk:=h s hs
  cases s with
  | wire x w s =>
   rw [List.mem_singleton.mp hr]
   exact x_o (noL_ren hk.2)
  | box x w f s =>
   rw [List.mem_singleton.mp hr]
   exact noL_box (noL_ren hk.2)
  | use c lb nm ss os =>
   obtain ⟨h1,h2,h3,h5,h4⟩:=hk
   cases e:lk nm with
   | none=>rw [rowF_none e] at hr;exact nomatch hr
   | some q =>
    rw [x_g e] at hr
    obtain ⟨_,_,_,h6⟩:=h4 q e
    refine use_noL (fun s hs=>?_) (fun f _=>rows_noL h6) r hr
    obtain ⟨u,hu,rfl⟩:=List.mem_map.mp hs
    exact noL_ren (h2 u hu)
theorem x_n{α β:Type}{l:List α}{f:α->List β}{i:Nat}{r:α}(h:l[i]? = some r):(l.take (i+1)).flatMap f=(l.take i).flatMap f++f r:=by
 rw [z_y h,List.flatMap_append]
 simp
theorem flat_le{α β:Type}(l:List α)(f:α->List β)(i:Nat):((l.take i).flatMap f).length<=(l.flatMap f).length:=by
 conv=>rhs;rw [<-List.take_append_drop i l,List.flatMap_append,List.length_append]
 lia
theorem strsD_of{H:Hp}:∀ {os:List Str} {xs:List V},Dats H (os.map PyData.str) xs->xs=os.map V.str
 | [],xs,h=>h.nilI
 | o::os,xs,h=>by
  obtain ⟨x,r,rfl,h1,h2⟩:=Dats.consI h
  have f0:x = .str o:=by unfold Dat at h1;exact h1
  rw [f0,strsD_of h2]
  rfl
theorem door_atG{H:Hp}{p:Str×Int}{v:V}(h:Dat H (doorD p) v):∃ r,v = .ref r/\H r=some (.tup [.str p.1,.int p.2]):=by
 obtain ⟨r,xs,rfl,hr,hx⟩:=Dat.tupI h
 obtain ⟨x0,r0,rfl,h0,hx⟩:=hx.consI
 obtain ⟨x1,r1,rfl,h1,hx⟩:=hx.consI
 have f0:x0 = .str p.1:=by unfold Dat at h0;exact h0
 have f1:=h1.intI
 have f5:=hx.nilI
 subst f0 f1 f5
 exact ⟨r,rfl,hr⟩
theorem x_c{P:Pt}{H:Hp}{v:V}(h:Dat H P.dat v):∃ r pd po pr ds os rs,v = .ref r/\H r=some (.tup [.str P.nm,.ref pd,.ref po,.ref pr])/\H pd=some (.tup ds)/\H po=some (.tup os)/\H pr=some (.tup rs)/\Dats H (P.ins.map doorD) ds/\Dats H (P.outs.map doorD) os/\Dats H (P.rows.map Rw.dat) rs:=by
 obtain ⟨r,xs,rfl,hr,hx⟩:=Dat.tupI h
 obtain ⟨x0,r0,rfl,h0,hx⟩:=hx.consI
 obtain ⟨x1,r1,rfl,h1,hx⟩:=hx.consI
 obtain ⟨x2,r2,rfl,h2,hx⟩:=hx.consI
 obtain ⟨x3,r3,rfl,h3,hx⟩:=hx.consI
 have f0:x0 = .str P.nm:=by unfold Dat at h0;exact h0
 have f5:=hx.nilI
 subst f0 f5
 obtain ⟨pd,ds,rfl,e1,d1⟩:=Dat.tupI h1
 obtain ⟨po,os,rfl,e2,d2⟩:=Dat.tupI h2
 obtain ⟨pr,rs,rfl,e3,d3⟩:=Dat.tupI h3
 exact ⟨r,pd,po,pr,ds,os,rs,rfl,hr,e1,e2,e3,d1,d2,d3⟩
theorem wire_at{H:Hp}{x:Str}{w:Int}{s:PyData}{v:V}(h:Dat H (Rw.wire x w s).dat v):∃ r sv,v = .ref r/\H r=some (.tup [.str "wire",.str x,.int w,sv])/\Dat H s sv:=by
 obtain ⟨r,xs,rfl,hr,hx⟩:=Dat.tupI h
 obtain ⟨x0,r0,rfl,h0,hx⟩:=hx.consI
 obtain ⟨x1,r1,rfl,h1,hx⟩:=hx.consI
 obtain ⟨x2,r2,rfl,h2,hx⟩:=hx.consI
 obtain ⟨x3,r3,rfl,h3,hx⟩:=hx.consI
 have f0:x0 = .str "wire" := by unfold Dat at h0;exact h0
 have f1:x1 = .str x:=by unfold Dat at h1;exact h1
 have f2:=h2.intI
 have f5:=hx.nilI
 subst f0 f1 f2 f5
 exact ⟨r,x3,rfl,hr,h3⟩
theorem box_at{H:Hp}{x:Str}{w f:Int}{s:PyData}{v:V}(h:Dat H (Rw.box x w f s).dat v):∃ r sv,v = .ref r/\H r=some (.tup [.str "box",.str x,.int w,.int f,sv])/\Dat H s sv:=by
 obtain ⟨r,xs,rfl,hr,hx⟩:=Dat.tupI h
 obtain ⟨x0,r0,rfl,h0,hx⟩:=hx.consI
 obtain ⟨x1,r1,rfl,h1,hx⟩:=hx.consI
 obtain ⟨x2,r2,rfl,h2,hx⟩:=hx.consI
 obtain ⟨x3,r3,rfl,h3,hx⟩:=hx.consI
 obtain ⟨x4,r4,rfl,h4,hx⟩:=hx.consI
 have f0:x0 = .str "box" := by unfold Dat at h0;exact h0
 have f1:x1 = .str x:=by unfold Dat at h1;exact h1
 have f2:=h2.intI
 have f3:=h3.intI
 have f5:=hx.nilI
 subst f0 f1 f2 f3 f5
 exact ⟨r,x4,rfl,hr,h4⟩
def wdC:Option Nat->Str
 | none => "part"
 | some _ => "times"
theorem wd_nin(c:Option Nat):inV (V.str (wdC c)) [V.str "wire",V.str "box"]=false:=by
 cases c with
 | none=>show inV (V.str "part") [V.str "wire",V.str "box"]=false;decide
 | some n=>show inV (V.str "times") [V.str "wire",V.str "box"]=false;decide
theorem use_at{H:Hp}{c:Option Nat}{lb nm:Str}{ss:List PyData}{os:List Str}{v:V}(h:Dat H (Rw.use c lb nm ss os).dat v):∃ r xs ps po sv,v = .ref r/\H r=some (.tup xs)/\atI xs 0=some (.str (wdC c))/\atI xs (-4)=some (.str lb)/\atI xs (-3)=some (.str nm)/\atI xs (-2)=some (.ref ps)/\atI xs (-1)=some (.ref po)/\(∀ n,c=some n->atI xs 1=some (.int (n:Nat)))/\H ps=some (.tup sv)/\H po=some (.tup (os.map V.str))/\Dats H ss sv:=by
 cases c with
 | none =>
  obtain ⟨r,xs,rfl,hr,hx⟩:=Dat.tupI h
  obtain ⟨x0,r0,rfl,h0,hx⟩:=hx.consI
  obtain ⟨x1,r1,rfl,h1,hx⟩:=hx.consI
  obtain ⟨x2,r2,rfl,h2,hx⟩:=hx.consI
  obtain ⟨x3,r3,rfl,h3,hx⟩:=hx.consI
  obtain ⟨x4,r4,rfl,h4,hx⟩:=hx.consI
  have f0:x0 = .str "part" := by unfold Dat at h0;exact h0
  have f1:x1 = .str lb:=by unfold Dat at h1;exact h1
  have f2:x2 = .str nm:=by unfold Dat at h2;exact h2
  have f5:=hx.nilI
  subst f0 f1 f2 f5
  obtain ⟨ps,sv,rfl,e1,d1⟩:=Dat.tupI h3
  obtain ⟨po,ov,rfl,e2,d2⟩:=Dat.tupI h4
  rw [strsD_of d2] at e2
  exact ⟨r,_,ps,po,sv,rfl,hr,rfl,rfl,rfl,rfl,rfl,(fun n e=>nomatch e),e1,e2,d1⟩
 | some n =>
  obtain ⟨r,xs,rfl,hr,hx⟩:=Dat.tupI h
  obtain ⟨x0,r0,rfl,h0,hx⟩:=hx.consI
  obtain ⟨xn,rn,rfl,hn,hx⟩:=hx.consI
  obtain ⟨x1,r1,rfl,h1,hx⟩:=hx.consI
  obtain ⟨x2,r2,rfl,h2,hx⟩:=hx.consI
  obtain ⟨x3,r3,rfl,h3,hx⟩:=hx.consI
  obtain ⟨x4,r4,rfl,h4,hx⟩:=hx.consI
  have f0:x0 = .str "times" := by unfold Dat at h0;exact h0
  have fn:=hn.intI
  have f1:x1 = .str lb:=by unfold Dat at h1;exact h1
  have f2:x2 = .str nm:=by unfold Dat at h2;exact h2
  have f5:=hx.nilI
  subst f0 fn f1 f2 f5
  obtain ⟨ps,sv,rfl,e1,d1⟩:=Dat.tupI h3
  obtain ⟨po,ov,rfl,e2,d2⟩:=Dat.tupI h4
  rw [strsD_of d2] at e2
  exact ⟨r,_,ps,po,sv,rfl,hr,rfl,rfl,rfl,rfl,rfl,(fun m e=>by cases e;rfl),e1,e2,d1⟩
theorem POk.le{lk:Str->Option Pt}:∀ {n:Nat} {P:Pt} {L M:Nat},POk lk n P L->M<=L->POk lk n P M
 | 0,_,_,_,h,_=>h.elim
 | n+1,P,L,M,h,l=>by
  obtain ⟨h0,h1,h2,h3,h4,h5,h6⟩:=h
  refine ⟨by lia,h1,h2,h3,h4,h5,fun r hr=>?_⟩
  have:=h6 r hr
  cases r with
  | wire x w s=>exact this
  | box x w f s=>exact this
  | use c lb nm ss os =>
   obtain ⟨a1,a2,a3,a5,a4⟩:=this
   exact ⟨a1,a2,a3,a5,fun q hq=>⟨(a4 q hq).1,(a4 q hq).2.1,(a4 q hq).2.2.1,POk.le (a4 q hq).2.2.2 (by lia)⟩⟩
theorem zip_get{α β:Type}{xs:List α}{ys:List β}{i:Nat}{x:α}{y:β}(h1:xs[i]? = some x)(h2:ys[i]? = some y):(xs.zip ys)[i]? = some (x,y):=List.getElem?_zip_eq_some.mpr ⟨h1,h2⟩
theorem zip_len{α β:Type}{xs:List α}{ys:List β}(h:xs.length=ys.length):(xs.zip ys).length=xs.length:=by rw [List.length_zip];lia
theorem copF_app{rec:Pt->Str->List Rw}{q:Pt}:∀ {fs gs:List Str} {ss:List PyData},copF rec q (fs++gs) ss=copF rec q fs ss++copF rec q gs (lastS q fs ss)
 | [],gs,ss=>rfl
 | f::fs,gs,ss=>by
  show inW q f ss++rec q f++copF rec q (fs++gs) (otW q f)=inW q f ss++rec q f++copF rec q fs (otW q f)++copF rec q gs (lastS q fs (otW q f))
  rw [copF_app,List.append_assoc (inW q f ss++rec q f)]
theorem copF_le(rec:Pt->Str->List Rw)(q:Pt)(fs:List Str)(ss:List PyData)(i:Nat):(copF rec q (fs.take i) ss).length<=(copF rec q fs ss).length:=by
 conv=>rhs;rw [<-List.take_append_drop i fs,copF_app,List.length_append]
 lia
theorem frnt_pos{a lb:Str}{c:Option Nat}(h:∀ n,c=some n->1<=n):0<(frnt a lb c).length:=by
 cases c with
 | none=>show 0<1;decide
 | some n=>show 0<((List.range n).map _).length;rw [List.length_map,List.length_range];exact h n rfl
theorem lastS_len{q:Pt}{a lb:Str}{c:Option Nat}{ss:List PyData}(hs:ss.length=q.ins.length)(hc:∀ n,c=some n->q.ins.length=q.outs.length){i:Nat}(hi:i<(frnt a lb c).length):(lastS q ((frnt a lb c).take i) ss).length=q.ins.length:=by
 cases i with
 | zero=>exact hs
 | succ i =>
  cases c with
  | none=>exact absurd hi (by show ¬i+1<1;lia)
  | some n =>
   rw [z_y (List.getElem?_eq_getElem (show i<(frnt a lb (some n)).length by lia)),lastS_snoc]
   unfold otW
   rw [List.length_map,hc n rfl]
theorem lastS_end{q:Pt}{fs:List Str}{ss:List PyData}(h:0<fs.length):(lastS q fs ss).length=q.outs.length:=by
 obtain ⟨gs,g,rfl⟩:∃ gs g,fs=gs++[g]:=by
  cases e:fs.getLast? with
  | none=>rw [List.getLast?_eq_none_iff.mp e] at h;exact absurd h (by decide)
  | some g=>obtain ⟨gs,hg⟩:=List.getLast?_eq_some_iff.mp e;exact ⟨gs,g,hg⟩
 rw [lastS_snoc]
 unfold otW
 rw [List.length_map]
theorem fn_ex{P:Program}{w:World}{K:PySem.W.Frag}{mg:Str->Option Value}{base:Heap}{k:Nat}{f:Addr}{fd:FuncData}{ps:List Str}{sp:Nat->Sp}{N:Nat}(h:∀ n,n<=N->FnOk P w K mg base CX0 k f fd ps (sp n)):FnOk P w K mg base CX0 k f fd ps (fun vs H Q E=>∃ n,n<=N/\sp n vs H Q E) :=
 ⟨fun vs H Q E ⟨n,hn,q⟩=>(h n hn).1 vs H Q E q,fun a1 a2 a3 a4 a5 a6 a7 a8 a9 a10 a11 a12 a13 ⟨n,hn,q⟩=>(h n hn).2 a1 a2 a3 a4 a5 a6 a7 a8 a9 a10 a11 a12 a13 q⟩
def sp_leaf8:Sp:=fun vs H Q _=>∃ (l wd:Addr) (kvs:List (Key×V)) (kv:Str->Option Int) (w:Int),vs=[.ref l,.ref wd,.int w]/\Bag H l/\H wd=some (.dK kvs)/\KW kvs kv/\GoodD kvs 30/\1<=w/\w<=8/\∀ d v H',Tp kv 2 d w->Dat H' d v->Bg l H H'->Q v H'
def sp_typed8(n:Nat):Sp:=fun vs H Q _=>∃ (l wd:Addr) (kvs:List (Key×V)) (kv:Str->Option Int) (w room:Int),vs=[.ref l,.ref wd,.int w,.int n,.int room]/\1<=n/\Bag H l/\H wd=some (.dK kvs)/\KW kvs kv/\GoodD kvs 30/\1<=w/\w<=8/\room<=1001/\∀ d v H',Tp kv (n+1) d w->Dat H' d v->Bg l H H'->Q v H'
def sp_typedN(N:Nat):Sp:=fun vs H Q E=>∃ n,n<=N/\sp_typed8 n vs H Q E
theorem thaw_same{H H1:Hp}{a:Addr}{kvs:List (Key×V)}(h:H a=some (.dK kvs))(k:∀ b o,b≠a->H b=some o->H1 b=some o):Same H (upd H1 a (.dK kvs)):=fun b o e=>by
 by_cases c:b=a
 ·subst c
  rw [h] at e
  cases e
  exact z_b
 ·rw [z_j c]
  exact k b o c e
def Shrt(kv:Str->Option Int):Prop:=∀ x w,kv x=some w->x.length<=20/\PyData.strOk x=true
theorem Et.hd{z:Str}{hd:List PyData}{ws:List Int}{w:Int}(h:Et z hd ws w):z∈words/\z ≠ "wire" /\ formK z=hd.length+1/\hd.length<=2/\ws.length<=3/\∀ e∈hd,(∃ i,e = .int i)\/∃ (m:Int) (ns:List Int),ns.length<=100/\e = .tuple ((m::ns).map PyData.int):=by
 cases h with
 | table w a ns h4 hl hn =>
  refine ⟨by decide,by decide,(by simp only [List.length_cons,List.length_nil];decide),by simp,by simp,fun e he=>?_⟩
  simp only [List.mem_cons,List.not_mem_nil,or_false] at he
  rcases he with rfl | rfl
  ·exact .inl ⟨_,rfl⟩
  ·have hp:=pow_pos2 a.toNat
   have h16:(2:Int)^a.toNat<=16:=by
    have h:(2:Nat)^a.toNat<=2^4:=Nat.pow_le_pow_right (by decide) (by lia)
    rw [cast_pow]
    lia
   cases ns with
   | nil=>simp at hl;lia
   | cons m ns=>exact .inr ⟨m,ns,by rw [List.length_cons] at hl;lia,rfl⟩
 | _=>refine ⟨by decide,by decide,(by simp only [List.length_cons,List.length_nil];decide),by simp,by simp,fun e he=>?_⟩<;>simp at he<;>first | exact .inl ⟨_,he⟩ | (rcases he with rfl | rfl<;>exact .inl ⟨_,rfl⟩)
theorem Tp.say{kv:Str->Option Int}(hk:Shrt kv):∀ {n:Nat} {d:PyData} {w:Int},Tp kv n d w->SayD n d
 | 0,_,_,h=>h.elim
 | n+1,d,w,h=>by
  obtain ⟨hw,h⟩:=h
  rcases h with ⟨x,rfl,e⟩ | ⟨i,rfl,_⟩ | ⟨z,hd,subs,ws,rfl,et,hl,hb,hs⟩
  ·obtain ⟨h1,h2⟩:=hk x w e
   exact .inl ⟨x,rfl,by lia,h2⟩
  ·exact .inr ⟨"number",[.int i,.int w],[],by decide,by decide,(by simp only [List.length_cons,List.length_nil];decide),by simp,by simp,fun e he=>by
    simp only [List.mem_cons,List.not_mem_nil,or_false] at he
    rcases he with rfl | rfl<;>exact .inl ⟨_,rfl⟩,rfl,fun _ h=>nomatch h⟩
  ·obtain ⟨h1,h2,h3,h4,h5,h6⟩:=et.hd
   refine .inr ⟨z,hd,subs,h1,h2,h3,h4,by lia,h6,rfl,fun s hm=>?_⟩
   obtain ⟨i,hi,rfl⟩:=List.getElem_of_mem hm
   obtain ⟨a,_,ht⟩:=hs i _ (List.getElem?_eq_getElem hi)
   exact ht.say hk
theorem SayD.up:∀ {n m:Nat} {d:PyData},SayD n d->n<=m->SayD m d
 | 0,_,_,h,_=>h.elim
 | n+1,0,_,_,l=>by lia
 | n+1,m+1,d,h,l=>by
  rcases h with h | ⟨z,hd,subs,h1,h2,h3,h4,h5,h6,e,h7⟩
  ·exact .inl h
  ·exact .inr ⟨z,hd,subs,h1,h2,h3,h4,h5,h6,e,fun s hs=>(h7 s hs).up (by lia)⟩
theorem renF_up{a:Str}:∀ {n m:Nat} {d:PyData},SayD n d->n<=m->renF a m d=renF a n d
 | 0,_,_,h,_=>h.elim
 | n+1,0,_,_,l=>by lia
 | n+1,m+1,d,h,l=>by
  rcases h with ⟨x,rfl,_⟩ | ⟨z,hd,subs,h1,h2,h3,h4,h5,h6,rfl,h7⟩
  ·rw [renF_wire,renF_wire]
  ·rw [renF_node a z n h2 h3,renF_node a z m h2 h3]
   congr 3
   exact List.map_congr_left fun s hs=>renF_up (h7 s hs) (by lia)
def sp_count(n:Nat):Sp:=fun vs H Q _=>∃ (d:PyData) (v:V),vs=[v]/\SayD n d/\Dat H d v/\∀ (c:Int) H',1<=c->c<=7^n->Same H H'->Q (.int c) H'
def sp_headed(n:Nat):Sp:=fun vs H Q _=>∃ (d:PyData) (v:V) (a:Str),vs=[v,.str a]/\SayD n d/\Dat H d v/\a.length<=90000/\∀ v' H',Same H H'->Dat H' (renF a n d) v'->Q v' H'
def PlD(e:PyData):Prop:=(∃ x,e = .str x)\/(∃ i,e = .int i)\/∃ (m:Int) (ns:List Int),e = .tuple ((m::ns).map PyData.int)
theorem say_get{n:Nat}{z:Str}{hd subs:List PyData}(f:PyData->PyData)(h6:∀ e∈hd,(∃ i,e = .int i)\/∃ (m:Int) (ns:List Int),ns.length<=100/\e = .tuple ((m::ns).map PyData.int))(h7:∀ s∈subs,SayD n s){i:Nat}{e:PyData}(h:(.str z::(hd++subs))[i]? = some e):∃ e',(.str z::(hd++subs.map f))[i]? = some e'/\((PlD e/\e'=e)\/(SayD n e/\e'=f e)):=by
 cases i with
 | zero =>
  cases h
  exact ⟨_,rfl,.inl ⟨.inl ⟨_,rfl⟩,rfl⟩⟩
 | succ i =>
  rw [List.getElem?_cons_succ] at h ⊢
  by_cases c:i<hd.length
  ·rw [List.getElem?_append_left c] at h ⊢
   refine ⟨e,h,.inl ⟨?_,rfl⟩⟩
   rcases h6 e (List.mem_of_getElem? h) with h | ⟨m,ns,_,h⟩
   ·exact .inr (.inl h)
   ·exact .inr (.inr ⟨m,ns,h⟩)
  ·rw [List.getElem?_append_right (by lia)] at h ⊢
   rw [List.getElem?_map,h]
   exact ⟨_,rfl,.inr ⟨h7 e (List.mem_of_getElem? h),rfl⟩⟩
theorem SayD.el{n:Nat}{d:PyData}(h:SayD (n+1) d):∃ es,d = .tuple es/\es.length<=6/\∀ e∈es,PlD e\/SayD n e:=by
 rcases h with ⟨x,rfl,_⟩ | ⟨z,hd,subs,h1,h2,h3,h4,h5,h6,rfl,h7⟩
 ·refine ⟨_,rfl,(by show 2<=6;decide),fun e he=>?_⟩
  simp only [List.mem_cons,List.not_mem_nil,or_false] at he
  rcases he with rfl | rfl<;>exact .inl (.inl ⟨_,rfl⟩)
 ·refine ⟨_,rfl,by simp;lia,fun e he=>?_⟩
  obtain ⟨i,hi⟩:=List.getElem?_of_mem he
  obtain ⟨e',_,h | h⟩:=say_get id h6 h7 hi
  ·exact .inl h.1
  ·exact .inr h.1
theorem say_hd{n:Nat}{H:Hp}{e:PyData}{y:V}(h:SayD n e)(hD:Dat H e y):∃ p z xs,y = .ref p/\H p=some (.tup (.str z::xs)):=by
 cases n with
 | zero=>exact h.elim
 | succ n =>
  have go:∀ (z:Str) (es:List PyData),e = .tuple (.str z::es)->∃ p z xs,y = .ref p/\H p=some (.tup (.str z::xs)):=by
   rintro z es rfl
   obtain ⟨p,xs,rfl,hp,hX⟩:=hD.tupI
   obtain ⟨x0,r0,rfl,h0,_⟩:=hX.consI
   have f0:x0 = .str z:=by unfold Dat at h0;exact h0
   subst f0
   exact ⟨p,z,r0,rfl,hp⟩
  rcases h with ⟨x,rfl,_⟩ | ⟨z,hd,subs,h1,h2,h3,h4,h5,h6,rfl,h7⟩
  ·exact go _ _ rfl
  ·exact go _ _ rfl
theorem ints_hd{H:Hp}{m:Int}{ns:List Int}{y:V}(hD:Dat H (.tuple ((m::ns).map PyData.int)) y):∃ p xs,y = .ref p/\H p=some (.tup (.int m::xs)):=by
 obtain ⟨p,xs,rfl,hp,hX⟩:=hD.tupI
 obtain ⟨x0,r0,rfl,h0,_⟩:=Dats.consI hX
 have f0:=h0.intI
 subst f0
 exact ⟨p,r0,rfl,hp⟩
theorem noLs_of:∀ {ds:List PyData},noLs ds=true->∀ d∈ds,noL d=true
 | [],_,_,h=>nomatch h
 | a::ds,h,d,hd=>by
  simp only [noLs,Bool.and_eq_true] at h
  rcases List.mem_cons.mp hd with rfl | hd
  ·exact h.1
  ·exact noLs_of h.2 d hd
theorem pow7(n:Nat):(1:Int)<=7^n:=by
 induction n with
 | zero=>decide
 | succ n ih=>rw [Int.pow_succ];lia
theorem cnt_up{i n:Nat}{s:Int}(h:s<=(i:Int)*7^n):s<=((i+1:Nat):Int)*7^n:=by
 have:=pow7 n
 rw [Int.natCast_add,Int.add_mul]
 lia
theorem cnt_add{i n:Nat}{s c:Int}(h:s<=(i:Int)*7^n)(hc:c<=7^n):s+c<=((i+1:Nat):Int)*7^n:=by
 rw [Int.natCast_add,Int.add_mul]
 lia
theorem cnt_end{i n:Nat}{s:Int}(hi:i<=6)(h:s<=(i:Int)*7^n):1+s<=7^(n+1):=by
 have h1:=pow7 n
 have h2:(i:Int)*7^n<=6*7^n:=Int.mul_le_mul_of_nonneg_right (by lia) (by lia)
 rw [Int.pow_succ]
 lia
theorem comp_zipt{K:PySem.W.Frag}{n:Nat}{c:St}{g:TG}{tt:TT}{te:TE}{H:Hp}{Fin:List V->Hp->Prop}{a b:Addr}{xs us:List V}(Pv:Nat->List V->Hp->Prop)(h0:Pv 0 [] H)(hl:∀ i ys H,i<=xs.length->Pv i ys H->SqT K H a xs/\SqT K H b us)(he:xs.length=us.length)(hz:∀ i ys H,i<xs.length->Pv i ys H->ys.length<sizeLine)
  (hs:∀ i x y p ys H (os:St),os.length=n->xs[i]? = some x->us[i]? = some y->Pv i ys H->H p=none->g (.ref p) (os++c) (upd H p (.tup [x,y])) fun σ2 H2=>tt σ2 H2 fun b H3=>if b=true then te σ2 H3 fun y H4=>Pv (i+1) (ys++[y]) H4 else Pv (i+1) ys H3)
  (hd:∀ ys H,Pv xs.length ys H->Fin ys H):CompG (Itzt K a b) n c g tt te H Fin:=by
 refine ⟨fun i m ys H=>m=xs.length-i/\i<=xs.length/\Pv i ys H,⟨xs.length,by simp,Nat.zero_le _,h0⟩,?_⟩
 rintro i m ys H ⟨rfl,hi,p⟩
 obtain ⟨q1,q2⟩:=hl i ys H hi p
 by_cases hlt:i<xs.length
 ·have hlt2:i<us.length:=by lia
  refine .inr ⟨⟨xs,us,xs[i],us[i],q1,q2,he,by simp [hlt],by simp [hlt2]⟩,hz i ys H hlt p,Pv (i+1),fun ys' H' p'=>⟨xs.length-(i+1),by lia,rfl,hlt,p'⟩,fun v H' y os hos=>?_⟩
  obtain ⟨pp,x,y,rfl,hp,rfl,e1,e2⟩:=y
  exact hs i x y pp ys H os hos (e1 xs q1) (e2 us q2) p hp
 ·have e:i=xs.length:=by lia
  subst e
  exact .inl ⟨⟨xs,us,q1,q2,rfl⟩,hd ys H p⟩
theorem comp_tupG{K:PySem.W.Frag}{n:Nat}{c:St}{g:TG}{tt:TT}{te:TE}{H:Hp}{Fin:List V->Hp->Prop}{a:Addr}{xs:List V}(Pv:Nat->List V->Hp->Prop)(h0:Pv 0 [] H)(hl:∀ i ys H,i<=xs.length->Pv i ys H->SqT K H a xs)(hz:∀ i ys H,i<xs.length->Pv i ys H->ys.length<sizeLine)
  (hs:∀ i x ys H (os:St),os.length=n->xs[i]? = some x->Pv i ys H->g x (os++c) H fun σ2 H2=>tt σ2 H2 fun b H3=>if b=true then te σ2 H3 fun y H4=>Pv (i+1) (ys++[y]) H4 else Pv (i+1) ys H3)
  (hd:∀ ys H,Pv xs.length ys H->Fin ys H):CompG (Itt K a) n c g tt te H Fin:=by
 refine ⟨fun i m ys H=>m=xs.length-i/\i<=xs.length/\Pv i ys H,⟨xs.length,by simp,Nat.zero_le _,h0⟩,?_⟩
 rintro i m ys H ⟨rfl,hi,p⟩
 have q1:=hl i ys H hi p
 by_cases hlt:i<xs.length
 ·refine .inr ⟨⟨xs,xs[i],q1,by simp [hlt]⟩,hz i ys H hlt p,Pv (i+1),fun ys' H' p'=>⟨xs.length-(i+1),by lia,rfl,hlt,p'⟩,fun v H' y os hos=>?_⟩
  obtain ⟨e,y⟩:=y
  subst e
  exact hs i v ys _ os hos (y xs q1) p
 ·have e:i=xs.length:=by lia
  subst e
  exact .inl ⟨⟨xs,q1,Nat.le_refl _⟩,hd ys H p⟩
def Kps(ls:List Addr)(H H':Hp):Prop:=∀ b o,b∉ls->H b=some o->H' b=some o
theorem Kps.refl{ls:List Addr}{H:Hp}:Kps ls H H:=fun _ _ _ e=>e
theorem Kps.trans{ls:List Addr}{H H1 H2:Hp}(a:Kps ls H H1)(b:Kps ls H1 H2):Kps ls H H2:=fun c o n e=>b c o n (a c o n e)
theorem Same.kps{ls:List Addr}{H H':Hp}(s:Same H H'):Kps ls H H':=fun c o _ e=>s c o e
theorem Bg.kps{l:Addr}{ls:List Addr}{H H':Hp}(g:Bg l H H')(m:l∈ls):Kps ls H H':=fun c o n e=>g.1 c o (fun z=>n (z▸m)) e
theorem Kps.set{ls:List Addr}{H H':Hp}{a:Addr}(k:Kps ls H H')(h:a∈ls)(o:HO):Kps ls H (upd H' a o):=fun c u n e=>by
 rw [z_j (fun z:c=a=>n (by rw [z];exact h))]
 exact k c u n e
theorem Kps.put{ls:List Addr}{H H':Hp}{a:Addr}(k:Kps ls H H')(h:H a=none)(o:HO):Kps ls H (upd H' a o):=fun c u n e=>by
 rw [z_j (z_g e h)]
 exact k c u n e
theorem Kps.free{ls:List Addr}{H H':Hp}{a:Addr}(k:Kps ls H H')(h:H' a=none)(n:a∉ls):H a=none:=by
 cases e:H a with
 | none=>rfl
 | some o=>rw [k a o n e] at h;cases h
theorem Kps.keepT{ls:List Addr}{H H':Hp}(k:Kps ls H H')(n:∀ a∈ls,∀ xs,H a≠some (.tup xs)):KeepT H H':=fun p xs h=>k p _ (fun z=>n p z xs h) h
def Sh(x:Str):Prop:=x.length<=20/\PyData.strOk x=true
def Wd(kvs:List (Key×V))(m:Nat):Prop:=GoodD kvs m/\∀ p∈kvs,∃ x,p.1 = .inr x/\Sh x
theorem Wd.nil:Wd [] 0:=⟨GoodD.nil,fun _ h=>nomatch h⟩
theorem Wd.up{kvs:List (Key×V)}{m n:Nat}(h:Wd kvs m)(l:m<=n):Wd kvs n:=⟨h.1.up l,h.2⟩
theorem Wd.put{kvs:List (Key×V)}{m:Nat}(h:Wd kvs m){x:Str}{i:Int}(hx:Sh x)(h1:1<=i)(h8:i<=8):Wd (putK kvs (.inr x) (.int i)) (m+1) :=
 ⟨h.1.put h1 h8,fun p hp=>by
  rcases mem_putK hp with e | ⟨e,_⟩
  ·rw [e];exact ⟨x,rfl,hx⟩
  ·exact h.2 p e⟩
theorem Wd.kw{kvs:List (Key×V)}{m:Nat}(h:Wd kvs m):∃ kv,KW kvs kv/\Shrt kv:=by
 obtain ⟨kv,k⟩:=h.1.kw
 refine ⟨kv,k,fun x w e=>?_⟩
 have h1:=k.1 x
 rw [e] at h1
 unfold valV at h1
 obtain ⟨p,hp,_⟩:=Option.map_eq_some_iff.mp h1
 have hm:=List.mem_of_find?_eq_some hp
 have hk:p.1 = .inr x:=by have:=List.find?_some hp;simpa using this
 obtain ⟨y,hy,hs⟩:=h.2 p hm
 rw [hk] at hy
 cases hy
 exact hs
def DrOk(d:Str×Int):Prop:=Sh d.1/\1<=d.2/\d.2<=8
def prK(d:Str×Int):Key×V:=(.inr d.1,.int d.2)
theorem Wd.pt:∀ ds:List (Str×Int),(∀ d∈ds,DrOk d)->Wd (ptK (ds.map prK)) ds.length:=by
 refine snoc_ind (fun _=>Wd.nil) fun l d ih h=>?_
 rw [List.map_append,List.map_cons,List.map_nil,ptK_snoc,List.length_append]
 obtain ⟨h1,h2,h3⟩:=h d (List.mem_append_right _ (List.mem_singleton.mpr rfl))
 exact (ih fun e he=>h e (List.mem_append_left _ he)).put h1 h2 h3
def DOk:Nat->PyData->Prop
 | 0,_=>False
 | n+1,d=>(∃ i,d = .int i)\/(∃ x,d = .str x/\PyData.strOk x=true)\/(∃ ds,d = .tuple ds/\ds.length<=10000/\∀ e∈ds,DOk n e)\/∃ ds,d = .list ds/\ds.length<=10000/\∀ e∈ds,DOk n e
theorem DOk.cmp:∀ {n:Nat} {d:PyData},DOk n d->Cmp n d
 | 0,_,h=>h.elim
 | n+1,d,h=>by
  rcases h with ⟨i,rfl⟩ | ⟨x,rfl,hx⟩ | ⟨ds,rfl,_,h⟩ | ⟨ds,rfl,_,h⟩
  ·exact .int _
  ·exact ⟨by simp [PyData.canLay0,hx],by simp [PyData.depth]⟩
  ·exact Cmp.tuple fun e he=>(h e he).cmp
  ·exact Cmp.list fun e he=>(h e he).cmp
theorem DOk.int{n:Nat}(i:Int):DOk (n+1) (.int i):=.inl ⟨i,rfl⟩
theorem DOk.str{n:Nat}{x:Str}(h:PyData.strOk x=true):DOk (n+1) (.str x):=.inr (.inl ⟨x,rfl,h⟩)
theorem DOk.tup{n:Nat}{ds:List PyData}(hl:ds.length<=10000)(h:∀ e∈ds,DOk n e):DOk (n+1) (.tuple ds):=.inr (.inr (.inl ⟨ds,rfl,hl,h⟩))
theorem DOk.lst{n:Nat}{ds:List PyData}(hl:ds.length<=10000)(h:∀ e∈ds,DOk n e):DOk (n+1) (.list ds):=.inr (.inr (.inr ⟨ds,rfl,hl,h⟩))
theorem dok_ren{a:Str}(ha:PyData.strOk a=true):∀ {n:Nat} {d:PyData},SayD n d->DOk (n+2) (renF a n d)
 | 0,_,h=>h.elim
 | n+1,d,h=>by
  rcases h with ⟨x,rfl,hx,hk⟩ | ⟨z,hd,subs,h1,h2,h3,h4,h5,h6,rfl,h7⟩
  ·rw [renF_wire]
   refine .tup (by show 2<=10000;decide) fun e he=>?_
   simp only [List.mem_cons,List.not_mem_nil,or_false] at he
   rcases he with rfl | rfl
   ·exact .str (by decide +kernel)
   ·exact .str (ok_app ha hk)
  ·rw [renF_node a z n h2 h3]
   refine .tup (by simp;lia) fun e he=>?_
   rcases List.mem_cons.mp he with rfl | he
   ·refine .str ?_
    have hw:∀ z∈words,PyData.strOk z=true:=by decide +kernel
    exact hw z h1
   rcases List.mem_append.mp he with he | he
   ·rcases h6 e he with ⟨i,rfl⟩ | ⟨m,ns,hl,rfl⟩
    ·exact .int _
    ·refine .tup (by rw [List.length_map,List.length_cons];lia) fun e he=>?_
     obtain ⟨i,_,rfl⟩:=List.mem_map.mp he
     exact .int _
   ·obtain ⟨s,hs,rfl⟩:=List.mem_map.mp he
    exact dok_ren ha (h7 s hs)
theorem renF_nil:∀ {n:Nat} {d:PyData},SayD n d->renF "" n d=d
 | 0,_,h=>h.elim
 | n+1,d,h=>by
  rcases h with ⟨x,rfl,hx,hk⟩ | ⟨z,hd,subs,h1,h2,h3,h4,h5,h6,rfl,h7⟩
  ·rw [renF_wire,show ("" : Str)++x=x from Str.empty_append _]
  ·rw [renF_node "" z n h2 h3]
   congr 3
   refine (List.map_congr_left fun s hs=>renF_nil (h7 s hs)).trans (List.map_id _)
theorem dok_say{n:Nat}{d:PyData}(h:SayD n d):DOk (n+2) d:=by
 have:=dok_ren (a := "") (by decide +kernel) h
 rwa [renF_nil h] at this
def sp_sameD(n:Nat):Sp:=fun vs H Q _=>∃ (d:PyData) (v u:V),vs=[v,u]/\DOk n d/\Dat H d v/\Dat H d u/\∀ H',Same H H'->Q (.bl true) H'
def RwI(r:Rw):Prop:=(∃ x w s,r = .wire x w s/\Sh x/\SayD 5 s)\/∃ x w f s,r = .box x w f s/\Sh x/\SayD 5 s
theorem RwI.noL{r:Rw}(h:RwI r):L2.noL r.dat=true:=by
 rcases h with ⟨x,w,s,rfl,_,h⟩ | ⟨x,w,f,s,rfl,_,h⟩
 ·exact x_o h.noL
 ·exact noL_box h.noL
theorem noL_doors(ds:List (Str×Int)):noLs (ds.map doorD)=true:=z_u fun e he=>by
 obtain ⟨d,_,rfl⟩:=List.mem_map.mp he
 rfl
theorem noL_pt{P:Pt}(h:∀ r∈P.rows,noL r.dat=true):noL P.dat=true:=by
 show noLs [_,.tuple (P.ins.map doorD),.tuple (P.outs.map doorD),.tuple (P.rows.map Rw.dat)]=true
 simp only [noLs,noL,Bool.true_and,Bool.and_true,Bool.and_eq_true]
 refine ⟨noL_doors _,noL_doors _,z_u fun e he=>?_⟩
 obtain ⟨r,hr,rfl⟩:=List.mem_map.mp he
 exact h r hr
def Nms(H:Hp)(p:Addr)(zs:List Str):Prop:=H p=some (.lst (zs.map V.str))/\(∀ z∈zs,Sh z)/\zs.length<=24
theorem pop0{x:V}{xs:List V}:seqIndex? 0 (x::xs).length=some 0:=by
 unfold seqIndex?
 simp
theorem Nms.nx{H H':Hp}{p:Addr}{z:Str}{zs:List Str}(h:Nms H p (z::zs))(e:H' p=some (.lst (zs.map V.str))):Nms H' p zs:=⟨e,fun u hu=>h.2.1 u (List.mem_cons_of_mem _ hu),by have:=h.2.2;rw [List.length_cons] at this;lia⟩
theorem ins_mem{α:Type}{l:List α}{i:Nat}{a x:α}(h:x∈l.take i++a::l.drop i):x=a\/x∈l:=by
 rcases List.mem_append.mp h with h | h
 ·exact .inr (List.mem_of_mem_take h)
 ·rcases List.mem_cons.mp h with h | h
  ·exact .inl h
  ·exact .inr (List.mem_of_mem_drop h)
theorem ins_len{α:Type}{l:List α}{i:Nat}{a:α}:(l.take i++a::l.drop i).length=l.length+1:=by
 rw [List.length_append,List.length_cons,List.length_take,List.length_drop]
 lia
theorem ins_dats{H:Hp}{ds:List PyData}{xs:List V}{d:PyData}{x:V}(h:Dats H ds xs)(hd:Dat H d x)(i:Nat):Dats H (ds.take i++d::ds.drop i) (xs.take i++x::xs.drop i):=(h.take i).append (.cons hd (h.drop i))
theorem bag_dict{H:Hp}{l a:Addr}{kvs:List (Key×V)}(b:Bag H l)(h:H a=some (.dK kvs)):a≠l:=fun e=>by
 obtain ⟨b0,b1,e2,_⟩:=b
 rw [e,e2] at h
 cases h
theorem lst_dict{H:Hp}{l a:Addr}{xs:List V}{kvs:List (Key×V)}(b:H l=some (.lst xs))(h:H a=some (.dK kvs)):a≠l:=fun e=>by
 rw [e,b] at h
 cases h
theorem Bag.noT{H:Hp}{l:Addr}(b:Bag H l):∀ xs,H l≠some (.tup xs):=fun xs e=>by
 obtain ⟨b0,b1,e2,_⟩:=b
 rw [e2] at e
 cases e
def PrL(H:Hp)(rs:List Addr)(ds:List (Str×Int)):Prop:=Paired (PrK H) rs (ds.map prK)
theorem PrL.keepT{H H':Hp}{rs:List Addr}{ds:List (Str×Int)}(k:KeepT H H')(h:PrL H rs ds):PrL H' rs ds:=pairedMono (fun _ _ e=>k _ _ e) h
theorem PrL.same{H H':Hp}{rs:List Addr}{ds:List (Str×Int)}(s:Same H H')(h:PrL H rs ds):PrL H' rs ds:=h.keepT (KeepT.same s)
theorem PrL.nil{H:Hp}:PrL H [] []:=Paired.nil
theorem PrL.length{H:Hp}{rs:List Addr}{ds:List (Str×Int)}(h:PrL H rs ds):rs.length=ds.length:=by
 have:=Paired.length h
 rwa [List.length_map] at this
theorem PrL.snoc{H:Hp}{rs:List Addr}{ds:List (Str×Int)}(h:PrL H rs ds){r:Addr}{d:Str×Int}(e:H r=some (.tup [.str d.1,.int d.2])):PrL H (rs++[r]) (ds++[d]):=by
 unfold PrL
 rw [List.map_append]
 exact pairedSn h (.cons (show PrK H r (prK d) from e) .nil)
theorem PrL.app{H:Hp}{rs ts:List Addr}{ds es:List (Str×Int)}(h:PrL H rs ds)(g:PrL H ts es):PrL H (rs++ts) (ds++es):=by
 unfold PrL
 rw [List.map_append]
 exact pairedSn h g
theorem PrL.get{H:Hp}{rs:List Addr}{ds:List (Str×Int)}(h:PrL H rs ds){i:Nat}{r:Addr}(e:rs[i]? = some r):∃ d,ds[i]? = some d/\H r=some (.tup [.str d.1,.int d.2]):=by
 obtain ⟨y,hy,hr⟩:=pairedGet h e
 rw [List.getElem?_map] at hy
 obtain ⟨d,hd,rfl⟩:=Option.map_eq_some_iff.mp hy
 exact ⟨d,hd,hr⟩
theorem PrL.dats{H:Hp}:∀ {ds:List (Str×Int)} {rs:List Addr},PrL H rs ds->Dats H (ds.map doorD) (rs.map V.ref)
 | [],rs,h=>by
  cases rs with
  | nil=>exact .nil
  | cons r rs=>cases h
 | d::ds,rs,h=>by
  cases rs with
  | nil=>cases h
  | cons r rs =>
   cases h with
   | cons a b=>exact .cons (Dat.tup a (.cons (Dat.str _) (.cons (Dat.int _) .nil))) (PrL.dats b)
theorem seq_have{t R:TS}{D:Ends}{σ:St}{H:Hp}(Pv:St->Hp->Prop)(h1:(∀ σ' H',Pv σ' H'->R D σ' H')->tSeq t R D σ H)(h2:∀ σ' H',Pv σ' H'->R D σ' H'):tSeq t R D σ H:=h1 h2
theorem cut_le{xs:List V}{e:Int}(h:0<=e):((cutV xs none (some e)).length:Int)<=e:=by
 obtain ⟨n,rfl⟩:=Int.eq_ofNat_of_zero_le h
 by_cases c:n<=xs.length
 ·rw [cut_to c,List.length_take]
  lia
 ·have:=cutV_length xs none (some (n:Int))
  show ((cutV xs none (some (n:Int))).length:Int)<=(n:Int)
  lia
theorem mem_cut8{xs:List V}{lo hi:Option Int}{y:V}(h:y∈cutV xs lo hi):y∈xs:=by
 unfold cutV at h
 exact List.mem_of_mem_drop (List.mem_of_mem_take h)
theorem Bg.kp{l:Addr}{ls:List Addr}{H H2 H3:Hp}(g:Bg l H H2)(k:Kps ls H2 H3)(b:Bag H3 l)(hf:∀ a∈ls,a=l\/H a=none):Bg l H H3:=⟨fun c o n e=>k c o (fun z=>by
 rcases hf c z with h | h
 ·exact n h
 ·rw [h] at e;cases e) (g.1 c o n e),b⟩
def PL(H:Hp)(p:Addr)(rs:List Addr)(ds:List (Str×Int)):Prop:=H p=some (.lst (rs.map V.ref))/\PrL H rs ds
theorem PL.kp{H H':Hp}{p:Addr}{rs:List Addr}{ds:List (Str×Int)}{ls:List Addr}(h:PL H p rs ds)(k:Kps ls H H')(t:KeepT H H')(n:p∉ls):PL H' p rs ds:=⟨k _ _ n h.1,h.2.keepT t⟩
theorem PL.same{H H':Hp}{p:Addr}{rs:List Addr}{ds:List (Str×Int)}(h:PL H p rs ds)(s:Same H H'):PL H' p rs ds:=⟨s _ _ h.1,h.2.same s⟩
theorem PL.bg{H H':Hp}{l p:Addr}{rs:List Addr}{ds:List (Str×Int)}(h:PL H p rs ds)(b:Bag H l)(g:Bg l H H')(n:p≠l):PL H' p rs ds:=⟨g.1 _ _ n h.1,h.2.keepT (g.keepT b)⟩
def RL(H:Hp)(p:Addr)(rows:List Rw):Prop:=(∃ xs,H p=some (.lst xs)/\Dats H (rows.map Rw.dat) xs)/\∀ r∈rows,RwI r
theorem noL_rows{rows:List Rw}(h:∀ r∈rows,RwI r):noLs (rows.map Rw.dat)=true:=z_u fun d hd=>by
 obtain ⟨r,hr,rfl⟩:=List.mem_map.mp hd
 exact (h r hr).noL
theorem RL.bg{H H':Hp}{l p:Addr}{rows:List Rw}(h:RL H p rows)(b:Bag H l)(g:Bg l H H')(n:p≠l):RL H' p rows:=by
 obtain ⟨⟨xs,e,d⟩,hr⟩:=h
 exact ⟨⟨xs,g.1 _ _ n e,Dats.keepT (g.keepT b) (noL_rows hr) d⟩,hr⟩
theorem PL.set{H:Hp}{p a:Addr}{rs:List Addr}{ds:List (Str×Int)}(h:PL H p rs ds){xs:List V}(e:H a=some (.lst xs))(n:p≠a)(o:HO):PL (upd H a o) p rs ds:=⟨by rw [z_j n];exact h.1,h.2.keepT (KeepT.lst e _)⟩
theorem RwI.last{r:Rw}(h:RwI r){H:Hp}{v:V}(hD:Dat H r.dat v):∃ p xs s sv,v = .ref p/\H p=some (.tup (xs++[sv]))/\SayD 5 s/\Dat H s sv:=by
 rcases h with ⟨x,w,s,rfl,_,h⟩ | ⟨x,w,f,s,rfl,_,h⟩
 ·obtain ⟨p,sv,rfl,hp,hs⟩:=wire_at hD
  exact ⟨p,[_,_,_],s,sv,rfl,hp,h,hs⟩
 ·obtain ⟨p,sv,rfl,hp,hs⟩:=box_at hD
  exact ⟨p,[_,_,_,_],s,sv,rfl,hp,h,hs⟩
theorem keep3{l np wd:Addr}{H H':Hp}{zs:List V}{kvs:List (Key×V)}(k:Kps [l,np,wd] H H')(b:Bag H l)(hn:H np=some (.lst zs))(hw:H wd=some (.dK kvs)):KeepT H H':=k.keepT fun a ha xs e=>by
 simp only [List.mem_cons,List.not_mem_nil,or_false] at ha
 rcases ha with rfl | rfl | rfl
 ·exact b.noT _ e
 ·rw [hn] at e;cases e
 ·rw [hw] at e;cases e
theorem keep2{l np:Addr}{H H':Hp}{zs:List V}(k:Kps [l,np] H H')(b:Bag H l)(hn:H np=some (.lst zs)):KeepT H H':=k.keepT fun a ha xs e=>by
 simp only [List.mem_cons,List.not_mem_nil,or_false] at ha
 rcases ha with rfl | rfl
 ·exact b.noT _ e
 ·rw [hn] at e;cases e
theorem DOk.up:∀ {n m:Nat} {d:PyData},DOk n d->n<=m->DOk m d
 | 0,_,_,h,_=>h.elim
 | n+1,0,_,_,l=>by lia
 | n+1,m+1,d,h,l=>by
  rcases h with h | h | ⟨ds,e,hl,h⟩ | ⟨ds,e,hl,h⟩
  ·exact .inl h
  ·exact .inr (.inl h)
  ·exact .inr (.inr (.inl ⟨ds,e,hl,fun d hd=>(h d hd).up (by lia)⟩))
  ·exact .inr (.inr (.inr ⟨ds,e,hl,fun d hd=>(h d hd).up (by lia)⟩))
theorem dok_wire{n:Nat}{x:Str}{w:Int}{s:PyData}(hx:PyData.strOk x=true)(h:DOk (n+1) s):DOk (n+2) (Rw.wire x w s).dat:=.tup (by show 4<=10000;decide) fun e he=>by
 simp only [List.mem_cons,List.not_mem_nil,or_false] at he
 rcases he with rfl | rfl | rfl | rfl
 ·exact .str (by decide +kernel)
 ·exact .str hx
 ·exact .int _
 ·exact h
theorem dok_box{n:Nat}{x:Str}{w f:Int}{s:PyData}(hx:PyData.strOk x=true)(h:DOk (n+1) s):DOk (n+2) (Rw.box x w f s).dat:=.tup (by show 5<=10000;decide) fun e he=>by
 simp only [List.mem_cons,List.not_mem_nil,or_false] at he
 rcases he with rfl | rfl | rfl | rfl | rfl
 ·exact .str (by decide +kernel)
 ·exact .str hx
 ·exact .int _
 ·exact .int _
 ·exact h
theorem RwI.dok{r:Rw}(h:RwI r):DOk 8 r.dat:=by
 rcases h with ⟨x,w,s,rfl,hx,h⟩ | ⟨x,w,f,s,rfl,hx,h⟩
 ·exact dok_wire hx.2 (dok_say h)
 ·exact dok_box hx.2 (dok_say h)
theorem dok_wireD{x:Str}(h:PyData.strOk x=true):DOk 2 (wireD x):=.tup (by show 2<=10000;decide) fun e he=>by
 simp only [List.mem_cons,List.not_mem_nil,or_false] at he
 rcases he with rfl | rfl
 ·exact .str (by decide +kernel)
 ·exact .str h
theorem dok_doors{ds:List (Str×Int)}(h:∀ d∈ds,Sh d.1):∀ e∈ds.map doorD,DOk 2 e:=fun e he=>by
 obtain ⟨d,hd,rfl⟩:=List.mem_map.mp he
 refine .tup (by show 2<=10000;decide) fun e he=>?_
 simp only [List.mem_cons,List.not_mem_nil,or_false] at he
 rcases he with rfl | rfl
 ·exact .str (h d hd).2
 ·exact .int _
theorem pt_dok{P:Pt}{n:Nat}(h1:Sh P.nm)(h2:∀ d∈P.ins,Sh d.1)(h3:∀ d∈P.outs,Sh d.1)(h4:∀ r∈P.rows,DOk (n+2) r.dat)(l1:P.ins.length<=10000)(l2:P.outs.length<=10000)(l3:P.rows.length<=10000):DOk (n+4) P.dat:=by
 refine .tup (by show 4<=10000;decide) fun e he=>?_
 simp only [List.mem_cons,List.not_mem_nil,or_false] at he
 rcases he with rfl | rfl | rfl | rfl
 ·exact .str h1.2
 ·exact .tup (by rw [List.length_map];exact l1) fun e he=>(dok_doors h2 e he).up (by lia)
 ·exact .tup (by rw [List.length_map];exact l2) fun e he=>(dok_doors h3 e he).up (by lia)
 ·refine .tup (by rw [List.length_map];exact l3) fun e he=>?_
  obtain ⟨r,hr,rfl⟩:=List.mem_map.mp he
  exact h4 r hr
theorem rwok_I{lk:Str->Option Pt}{nxt:Pt->Nat->Prop}{L:Nat}{r:Rw}(h:RwI r):RwOk lk nxt L r:=by
 rcases h with ⟨x,w,s,rfl,hx,h⟩ | ⟨x,w,f,s,rfl,hx,h⟩
 ·exact ⟨Nat.le_trans hx.1 (by decide),h.up (by decide)⟩
 ·exact ⟨Nat.le_trans hx.1 (by decide),h.up (by decide)⟩
def AllL8(H:Hp)(as:List Addr)(n:Nat):Prop:=∀ a∈as,∃ xs,H a=some (.lst xs)/\xs.length<=n
def dotF(x:Str):Prop:=(46:Nat)∉x.cps.toList
def ptxt:List Str->Str
 | [] => ""
 | [x]=>x
 | x::y::r=>x ++ "." ++ ptxt (y::r)
theorem str_ext{a b:Str}(h:a.cps.toList=b.cps.toList):a=b:=by
 obtain ⟨⟨a⟩⟩:=a
 obtain ⟨⟨b⟩⟩:=b
 cases h
 rfl
theorem dot_cps:(("." : Str)).cps.toList=[46]:=by decide +kernel
theorem ptxt_cons2(x y:Str)(r:List Str):(ptxt (x::y::r)).cps.toList=x.cps.toList++46::(ptxt (y::r)).cps.toList:=by
 show (x ++ "." ++ ptxt (y::r)).cps.toList=_
 rw [cps_app,cps_app,dot_cps,List.append_assoc]
 rfl
theorem ptxt_inj:∀ {p q:List Str},(∀ x∈p,dotF x)->(∀ x∈q,dotF x)->p≠[]->q≠[]->ptxt p=ptxt q->p=q
 | [],_,_,_,h,_,_=>absurd rfl h
 | _::_,[],_,_,_,h,_=>absurd rfl h
 | [x],[y],_,_,_,_,e=>by
  have e':x=y:=e
  rw [e']
 | [x],y::z::r,hp,hq,_,_,e=>by
  have h:=congrArg (fun s:Str=>s.cps.toList) e
  have h':x.cps.toList=(ptxt (y::z::r)).cps.toList:=h
  rw [ptxt_cons2] at h'
  exact absurd (by rw [h'];simp) (hp x List.mem_cons_self)
 | x::w::p,[y],hp,hq,_,_,e=>by
  have h:=congrArg (fun s:Str=>s.cps.toList) e
  have h':(ptxt (x::w::p)).cps.toList=y.cps.toList:=h
  rw [ptxt_cons2] at h'
  exact absurd (by rw [<-h'];simp) (hq y List.mem_cons_self)
 | x::w::p,y::z::q,hp,hq,_,_,e=>by
  have h:=congrArg (fun s:Str=>s.cps.toList) e
  have h':(ptxt (x::w::p)).cps.toList=(ptxt (y::z::q)).cps.toList:=h
  rw [ptxt_cons2,ptxt_cons2] at h'
  obtain ⟨h1,h2⟩:=cut_same (hp x List.mem_cons_self) (hq y List.mem_cons_self) h'
  have e1:=str_ext h1
  have e2:=ptxt_inj (p:=w::p) (q:=z::q) (fun u hu=>hp u (List.mem_cons_of_mem _ hu)) (fun u hu=>hq u (List.mem_cons_of_mem _ hu)) (by simp) (by simp) (str_ext h2)
  rw [e1,e2]
theorem ptxt_app:∀ {p q:List Str},p≠[]->q≠[]->ptxt (p++q)=ptxt p ++ "." ++ ptxt q
 | [],_,h,_=>absurd rfl h
 | [x],[],_,h=>absurd rfl h
 | [x],y::q,_,_=>rfl
 | x::y::p,q,_,h=>by
  show x ++ "." ++ ptxt ((y::p)++q)=x ++ "." ++ ptxt (y::p) ++ "." ++ ptxt q
  rw [ptxt_app (p:=y::p) (by simp) h]
  simp only [Str.append_assoc]
def nmR:Rw->Str
 | .wire x _ _=>x
 | .box x _ _ _=>x
 | .use _ _ _ _ _ => ""
def pres(lb:Str):Option Nat->List (List Str)
 | none=>[[lb]]
 | some n=>(List.range n).map fun k=>[lb,digT k]
def pthR(lk:Str->Option Pt)(rec:Pt->List (List Str)):Rw->List (List Str)
 | .wire x _ _=>[[x]]
 | .box x _ _ _=>[[x]]
 | .use c lb nm _ os=>match lk nm with
  | none=>[]
  | some q=>(pres lb c).flatMap (fun π=>q.ins.map (fun d=>π++[d.1])++(rec q).map (π ++ ·))++os.map fun o=>[o]
def pthF(lk:Str->Option Pt):Nat->Pt->List (List Str)
 | 0,_=>[]
 | n+1,P=>P.rows.flatMap (pthR lk (pthF lk n))
theorem pthR_none{lk:Str->Option Pt}{rec:Pt->List (List Str)}{c:Option Nat}{lb nm:Str}{ss:List PyData}{os:List Str}(e:lk nm=none):pthR lk rec (.use c lb nm ss os)=[]:=by
 show (match lk nm with | none=>[] | some q=>(pres lb c).flatMap (fun (π:List Str)=>q.ins.map (fun (d:Str×Int)=>π++[d.1])++(rec q).map (π ++ ·))++os.map fun o=>[o])=_
 rw [e]
theorem x_f{lk:Str->Option Pt}{rec:Pt->List (List Str)}{c:Option Nat}{lb nm:Str}{ss:List PyData}{os:List Str}{q:Pt}(e:lk nm=some q):pthR lk rec (.use c lb nm ss os)=(pres lb c).flatMap (fun π=>q.ins.map (fun (d:Str×Int)=>π++[d.1])++(rec q).map (π ++ ·))++os.map fun o=>[o]:=by
 show (match lk nm with | none=>[] | some q=>(pres lb c).flatMap (fun (π:List Str)=>q.ins.map (fun (d:Str×Int)=>π++[d.1])++(rec q).map (π ++ ·))++os.map fun o=>[o])=_
 rw [e]
theorem pres_ne{lb:Str}{c:Option Nat}:∀ π∈pres lb c,π≠[]:=by
 intro π h
 cases c with
 | none=>rw [List.mem_singleton.mp h];simp
 | some n=>obtain ⟨k,_,rfl⟩:=List.mem_map.mp h;simp
theorem frnt_pres(a lb:Str)(c:Option Nat):frnt a lb c=(pres lb c).map fun π=>a++ptxt π ++ "." := by
 cases c with
 | none=>rfl
 | some n =>
  show (List.range n).map _=((List.range n).map _).map _
  rw [List.map_map]
  refine List.map_congr_left fun k _=>?_
  show a++lb ++ "." ++ digT k ++ "." = a++(lb ++ "." ++ digT k) ++ "."
  simp only [Str.append_assoc]
theorem flat_congr{α β:Type}{l:List α}{f g:α->List β}(h:∀ a∈l,f a=g a):l.flatMap f=l.flatMap g:=by
 induction l with
 | nil=>rfl
 | cons a l ih=>rw [List.flatMap_cons,List.flatMap_cons,h a List.mem_cons_self,ih fun b hb=>h b (List.mem_cons_of_mem _ hb)]
theorem pthR_ne{lk:Str->Option Pt}{rec:Pt->List (List Str)}{r:Rw}:∀ p∈pthR lk rec r,p≠[]:=by
 intro p hp
 cases r with
 | wire x w s=>rw [List.mem_singleton.mp hp];simp
 | box x w f s=>rw [List.mem_singleton.mp hp];simp
 | use c lb nm ss os =>
  cases e:lk nm with
  | none=>rw [pthR_none e] at hp;exact nomatch hp
  | some q =>
   rw [x_f e] at hp
   rcases List.mem_append.mp hp with hp | hp
   ·obtain ⟨π,hπ,hp⟩:=List.mem_flatMap.mp hp
    have:=pres_ne π hπ
    rcases List.mem_append.mp hp with hp | hp
    ·obtain ⟨d,_,rfl⟩:=List.mem_map.mp hp
     simp
    ·obtain ⟨d,_,rfl⟩:=List.mem_map.mp hp
     simp [this]
   ·obtain ⟨o,_,rfl⟩:=List.mem_map.mp hp
    simp
theorem pthF_ne{lk:Str->Option Pt}:∀ {n:Nat} {P:Pt},∀ p∈pthF lk n P,p≠[]
 | 0,_,_,h=>nomatch h
 | n+1,P,p,h=>by
  obtain ⟨r,_,h⟩:=List.mem_flatMap.mp h
  exact pthR_ne p h
theorem zip_fst{α β γ:Type}(g:α->γ):∀ {xs:List α} {ys:List β},ys.length=xs.length->(xs.zip ys).map (fun p=>g p.1)=xs.map g
 | [],_,_=>by simp
 | x::xs,[],h=>by simp at h
 | x::xs,y::ys,h=>by
  rw [List.zip_cons_cons,List.map_cons,List.map_cons,zip_fst g (Nat.succ.inj h)]
theorem inW_nm{q:Pt}{f:Str}{ss:List PyData}(h:ss.length=q.ins.length):(inW q f ss).map nmR=q.ins.map fun d=>f++d.1:=by
 unfold inW
 rw [List.map_map]
 exact zip_fst (fun d:Str×Int=>f++d.1) h
theorem copF_nm{rec:Pt->Str->List Rw}{q:Pt}:∀ {fs:List Str} {ss:List PyData},ss.length=q.ins.length->(fs.length<=1\/q.ins.length=q.outs.length)->(copF rec q fs ss).map nmR=fs.flatMap fun f=>(q.ins.map fun d=>f++d.1)++(rec q f).map nmR
 | [],_,_,_=>rfl
 | f::fs,ss,h,hc=>by
  show (inW q f ss++rec q f++copF rec q fs (otW q f)).map nmR=_
  rw [List.map_append,List.map_append,inW_nm h,List.flatMap_cons]
  congr 1
  rcases hc with hc | hc
  ·have:fs=[]:=List.eq_nil_of_length_eq_zero (by rw [List.length_cons] at hc;lia)
   rw [this]
   rfl
  ·exact copF_nm (by unfold otW;rw [List.length_map,hc]) (.inr hc)
theorem use_nm{rec:Pt->Str->List Rw}{a:Str}{q:Pt}{c:Option Nat}{lb:Str}{ss:List PyData}{os:List Str}(h1:ss.length=q.ins.length)(h2:os.length=q.outs.length)(hc:∀ n,c=some n->1<=n/\q.ins.length=q.outs.length):(useF rec a q c lb ss os).map nmR=((frnt a lb c).flatMap fun f=>(q.ins.map fun d=>f++d.1)++(rec q f).map nmR)++os.map (a ++ ·):=by
 unfold useF
 rw [List.map_append,copF_nm h1 ?_]
 ·congr 1
  rw [List.map_map]
  refine zip_fst (fun o:Str=>a++o) ?_
  rw [zip_len]
  ·exact h2.symm
  ·exact (lastS_end (frnt_pos fun n e=>(hc n e).1)).symm
 ·cases c with
  | none=>exact .inl (Nat.le_refl _)
  | some n=>exact .inr (hc n rfl).2
theorem nm_rows{lk:Str->Option Pt}:∀ {n:Nat} {P:Pt} {L:Nat},POk lk n P L->∀ a,(rowsF lk n P a).map nmR=(pthF lk n P).map fun p=>a++ptxt p
 | 0,_,_,h,_=>h.elim
 | n+1,P,L,h,a=>by
  obtain ⟨_,_,_,_,_,_,h⟩:=h
  show (P.rows.flatMap (rowF lk (rowsF lk n) a)).map nmR=(P.rows.flatMap (pthR lk (pthF lk n))).map _
  rw [List.map_flatMap,List.map_flatMap]
  have go:∀ r∈P.rows,(rowF lk (rowsF lk n) a r).map nmR=(pthR lk (pthF lk n) r).map fun p=>a++ptxt p:=by
   intro r hr
   have hk:=h r hr
   cases r with
   | wire x w s=>rfl
   | box x w f s=>rfl
   | use c lb nm ss os =>
    obtain ⟨_,_,_,_,h4⟩:=hk
    cases e:lk nm with
    | none =>
     rw [rowF_none e,pthR_none e]
     rfl
    | some q =>
     obtain ⟨k1,k2,k3,k4⟩:=h4 q e
     rw [x_g e,use_nm (by rw [List.length_map];exact k1) k2 k3,x_f e]
     rw [List.map_append,List.map_flatMap,frnt_pres,List.flatMap_map,List.map_map]
     congr 1
     refine flat_congr fun π hπ=>?_
     have hne:=pres_ne π hπ
     rw [List.map_append,List.map_map,List.map_map,nm_rows k4]
     congr 1
     ·refine List.map_congr_left fun d _=>?_
      show a++ptxt π ++ "." ++ d.1=a++ptxt (π++[d.1])
      rw [ptxt_app hne (by simp)]
      simp only [Str.append_assoc]
      rfl
     ·refine List.map_congr_left fun p hp=>?_
      show a++ptxt π ++ "." ++ ptxt p=a++ptxt (π++p)
      rw [ptxt_app hne (pthF_ne p hp)]
      simp only [Str.append_assoc]
  exact flat_congr go
def labs:Rw->List Str
 | .use _ lb _ _ _=>[lb]
 | _=>[]
def defs:Rw->List Str
 | .wire x _ _=>[x]
 | .box x _ _ _=>[x]
 | .use _ _ _ _ os=>os
structure NmOk(P:Pt):Prop where
 nd:(P.ins.map Prod.fst++P.rows.flatMap defs).Nodup
 lb:(P.rows.flatMap labs).Nodup
 di:∀ d∈P.ins,dotF d.1
 dd:∀ r∈P.rows,∀ x∈defs r,dotF x
 dl:∀ r∈P.rows,∀ x∈labs r,dotF x
 cp:∀ r∈P.rows,∀ n lb nm ss os,r = .use (some n) lb nm ss os->n<=8
theorem dig_dot:∀ k,k<8->dotF (digT k):=by
 have h:∀ k,k<8->decide ((46:Nat)∈(digT k).cps.toList)=false:=by decide +kernel
 intro k hk e
 have:=h k hk
 rw [decide_eq_true e] at this
 cases this
theorem dig_inj:∀ j,j<8->∀ k,k<8->digT j=digT k->j=k:=by decide +kernel
theorem pthR_form{lk:Str->Option Pt}{rec:Pt->List (List Str)}(hne:∀ q,∀ p∈rec q,p≠[]){r:Rw}{p:List Str}(h:p∈pthR lk rec r):(∃ x∈defs r,p=[x])\/∃ lb∈labs r,∃ y t,p=lb::y::t:=by
 cases r with
 | wire x w s=>rw [List.mem_singleton.mp h];exact .inl ⟨x,List.mem_cons_self,rfl⟩
 | box x w f s=>rw [List.mem_singleton.mp h];exact .inl ⟨x,List.mem_cons_self,rfl⟩
 | use c lb nm ss os =>
  cases e:lk nm with
  | none=>rw [pthR_none e] at h;exact nomatch h
  | some q =>
   rw [x_f e] at h
   rcases List.mem_append.mp h with h | h
   ·right
    refine ⟨lb,List.mem_cons_self,?_⟩
    obtain ⟨π,hπ,h⟩:=List.mem_flatMap.mp h
    have hπ':∃ t,π=lb::t:=by
     cases c with
     | none=>exact ⟨[],List.mem_singleton.mp hπ⟩
     | some n=>obtain ⟨k,_,rfl⟩:=List.mem_map.mp hπ;exact ⟨_,rfl⟩
    obtain ⟨t,rfl⟩:=hπ'
    have go:∀ u:List Str,u≠[]->∃ y t',lb::t++u=lb::y::t':=fun u hu=>by
     cases t with
     | nil =>
      cases u with
      | nil=>exact absurd rfl hu
      | cons y u=>exact ⟨y,u,rfl⟩
     | cons y t=>exact ⟨y,t++u,rfl⟩
    rcases List.mem_append.mp h with h | h
    ·obtain ⟨d,_,rfl⟩:=List.mem_map.mp h
     exact go _ (by simp)
    ·obtain ⟨u,hu,rfl⟩:=List.mem_map.mp h
     exact go _ (hne q u hu)
   ·obtain ⟨o,ho,rfl⟩:=List.mem_map.mp h
    exact .inl ⟨o,ho,rfl⟩
theorem pth_single{lk:Str->Option Pt}:∀ {n:Nat} {P:Pt} {x:Str},[x]∈pthF lk n P->x∈P.rows.flatMap defs
 | 0,_,_,h=>nomatch h
 | n+1,P,x,h=>by
  obtain ⟨r,hr,h⟩:=List.mem_flatMap.mp h
  rcases pthR_form (fun q p hp=>pthF_ne p hp) h with ⟨y,hy,e⟩ | ⟨lb,_,y,t,e⟩
  ·cases e
   exact List.mem_flatMap.mpr ⟨r,hr,hy⟩
  ·cases e
theorem pth_dot{lk:Str->Option Pt}(hk:∀ nm q,lk nm=some q->NmOk q):∀ {n:Nat} {P:Pt},NmOk P->∀ p∈pthF lk n P,∀ x∈p,dotF x
 | 0,_,_,_,h,_,_=>nomatch h
 | n+1,P,hP,p,h,x,hx=>by
  obtain ⟨r,hr,h⟩:=List.mem_flatMap.mp h
  cases r with
  | wire y w s=>rw [List.mem_singleton.mp h] at hx;exact hP.dd _ hr x hx
  | box y w f s=>rw [List.mem_singleton.mp h] at hx;exact hP.dd _ hr x hx
  | use c lb nm ss os =>
   cases e:lk nm with
   | none=>rw [pthR_none e] at h;exact nomatch h
   | some q =>
    rw [x_f e] at h
    rcases List.mem_append.mp h with h | h
    ·obtain ⟨π,hπ,h⟩:=List.mem_flatMap.mp h
     have hd:∀ y∈π,dotF y:=fun y hy=>by
      cases c with
      | none =>
       rw [List.mem_singleton.mp hπ] at hy
       exact hP.dl _ hr y hy
      | some m =>
       obtain ⟨k,hk',rfl⟩:=List.mem_map.mp hπ
       have:=hP.cp _ hr m lb nm ss os rfl
       have:=List.mem_range.mp hk'
       rcases List.mem_cons.mp hy with rfl | hy
       ·exact hP.dl _ hr y List.mem_cons_self
       ·rw [List.mem_singleton.mp hy]
        exact dig_dot k (by lia)
     rcases List.mem_append.mp h with h | h
     ·obtain ⟨d,hdm,rfl⟩:=List.mem_map.mp h
      rcases List.mem_append.mp hx with hx | hx
      ·exact hd x hx
      ·rw [List.mem_singleton.mp hx]
       exact (hk nm q e).di d hdm
     ·obtain ⟨u,hu,rfl⟩:=List.mem_map.mp h
      rcases List.mem_append.mp hx with hx | hx
      ·exact hd x hx
      ·exact pth_dot hk (hk nm q e) u hu x hx
    ·obtain ⟨o,ho,rfl⟩:=List.mem_map.mp h
     exact hP.dd _ hr x (by rw [List.mem_singleton.mp hx];exact ho)
theorem nodup_map{α β:Type}{f:α->β}(hf:∀ a b,f a=f b->a=b){l:List α}(h:l.Nodup):(l.map f).Nodup:=List.pairwise_map.mpr (h.imp fun hne e=>hne (hf _ _ e))
theorem pth_nodup{lk:Str->Option Pt}(hk:∀ nm q,lk nm=some q->NmOk q):∀ {n:Nat} {P:Pt},NmOk P->(pthF lk n P).Nodup
 | 0,_,_=>.nil
 | n+1,P,hP=>by
  have hnd:=(List.pairwise_append.mp hP.nd).2.1
  obtain ⟨d1,d2⟩:=List.pairwise_flatMap.mp hnd
  obtain ⟨_,l2⟩:=List.pairwise_flatMap.mp hP.lb
  refine List.pairwise_flatMap.mpr ⟨fun r hr=>?_,?_⟩
  ·cases r with
   | wire x w s=>exact List.pairwise_singleton _ _
   | box x w f s=>exact List.pairwise_singleton _ _
   | use c lb nm ss os =>
    cases e:lk nm with
    | none=>rw [pthR_none e];exact .nil
    | some q =>
     have hq:=hk nm q e
     rw [x_f e]
     refine List.pairwise_append.mpr ⟨List.pairwise_flatMap.mpr ⟨fun π hπ=>?_,?_⟩,nodup_map (fun a b h=>by cases h;rfl) (d1 _ hr),?_⟩
     ·refine List.pairwise_append.mpr ⟨?_,nodup_map (fun a b h=>List.append_cancel_left h) (pth_nodup hk hq),?_⟩
      ·have:=(List.pairwise_append.mp hq.nd).1
       have h2:=nodup_map (f:=fun x:Str=>π++[x]) (fun a b h=>by have:=List.append_cancel_left h;cases this;rfl) this
       rw [List.map_map] at h2
       exact h2
      ·intro a ha b hb hab
       obtain ⟨d,hd,rfl⟩:=List.mem_map.mp ha
       obtain ⟨u,hu,rfl⟩:=List.mem_map.mp hb
       have e1:=List.append_cancel_left hab
       rw [<-e1] at hu
       exact (List.pairwise_append.mp hq.nd).2.2 d.1 (List.mem_map.mpr ⟨d,hd,rfl⟩) d.1 (pth_single hu) rfl
     ·cases c with
      | none=>exact List.pairwise_singleton _ _
      | some m =>
       have hm:=hP.cp _ hr m lb nm ss os rfl
       refine List.pairwise_map.mpr (List.Pairwise.imp_of_mem ?_ List.pairwise_lt_range)
       intro j k hj hk' lt a ha b hb hab
       have hj8:=List.mem_range.mp hj
       have hk8:=List.mem_range.mp hk'
       have e1:∃ u,a=lb::digT j::u:=by
        rcases List.mem_append.mp ha with ha | ha
        ·obtain ⟨d,_,rfl⟩:=List.mem_map.mp ha;exact ⟨_,rfl⟩
        ·obtain ⟨d,_,rfl⟩:=List.mem_map.mp ha;exact ⟨_,rfl⟩
       have e2:∃ u,b=lb::digT k::u:=by
        rcases List.mem_append.mp hb with hb | hb
        ·obtain ⟨d,_,rfl⟩:=List.mem_map.mp hb;exact ⟨_,rfl⟩
        ·obtain ⟨d,_,rfl⟩:=List.mem_map.mp hb;exact ⟨_,rfl⟩
       obtain ⟨u,rfl⟩:=e1
       obtain ⟨u',rfl⟩:=e2
       injection hab with _ h2
       injection h2 with h3 _
       have:=dig_inj j (by lia) k (by lia) h3
       lia
     ·intro a ha b hb hab
      obtain ⟨π,hπ,ha⟩:=List.mem_flatMap.mp ha
      obtain ⟨o,_,rfl⟩:=List.mem_map.mp hb
      have hp:=pres_ne π hπ
      have hlen:=congrArg List.length hab
      have hpl:0<π.length:=List.length_pos_iff.mpr hp
      rcases List.mem_append.mp ha with ha | ha
      ·obtain ⟨d,_,rfl⟩:=List.mem_map.mp ha
       rw [List.length_append] at hlen
       have h1:π.length+1=1:=hlen
       lia
      ·obtain ⟨u,hu,rfl⟩:=List.mem_map.mp ha
       have hul:0<u.length:=List.length_pos_iff.mpr (pthF_ne u hu)
       rw [List.length_append] at hlen
       have h1:π.length+u.length=1:=hlen
       lia
  ·refine List.Pairwise.imp_of_mem ?_ (d2.and l2)
   intro r1 r2 h1 h2 h a ha b hb hab
   rcases pthR_form (fun q p hp=>pthF_ne p hp) ha with ⟨x,hx,rfl⟩ | ⟨lb,hlb,y,t,rfl⟩
   ·rcases pthR_form (fun q p hp=>pthF_ne p hp) hb with ⟨x',hx',rfl⟩ | ⟨lb',hlb',y',t',rfl⟩
    ·cases hab
     exact h.1 x hx x hx' rfl
    ·cases hab
   ·rcases pthR_form (fun q p hp=>pthF_ne p hp) hb with ⟨x',hx',rfl⟩ | ⟨lb',hlb',y',t',rfl⟩
    ·cases hab
    ·injection hab with h3 _
     exact h.2 lb hlb lb' hlb' h3
theorem rows_nodup{lk:Str->Option Pt}(hk:∀ nm q,lk nm=some q->NmOk q){n:Nat}{P:Pt}{L:Nat}(hO:POk lk n P L)(hP:NmOk P)(a:Str):((rowsF lk n P a).map nmR).Nodup:=by
 rw [nm_rows hO]
 have hn:=pth_nodup (n:=n) hk hP
 have hd:=pth_dot (n:=n) hk hP
 refine List.pairwise_map.mpr (List.Pairwise.imp_of_mem ?_ hn)
 intro p q hp hq hne e
 apply hne
 refine ptxt_inj (hd p hp) (hd q hq) (pthF_ne p hp) (pthF_ne q hq) (str_ext ?_)
 have h:=congrArg (fun s:Str=>s.cps.toList) e
 simp only [cps_app] at h
 exact List.append_cancel_left h
theorem use_at2{H:Hp}{c:Option Nat}{lb nm:Str}{ss:List PyData}{os:List Str}{v:V}(h:Dat H (Rw.use c lb nm ss os).dat v):∃ r xs,v = .ref r/\H r=some (.tup xs)/\atI xs 0=some (.str (wdC c))/\(c=none->atI xs 1=some (.str lb))/\∀ n,c=some n->atI xs 1=some (.int (n:Nat))/\atI xs 2=some (.str lb):=by
 cases c with
 | none =>
  obtain ⟨r,xs,rfl,hr,hx⟩:=Dat.tupI h
  obtain ⟨x0,r0,rfl,h0,hx⟩:=hx.consI
  obtain ⟨x1,r1,rfl,h1,hx⟩:=hx.consI
  have f0:x0 = .str "part" := by unfold Dat at h0;exact h0
  have f1:x1 = .str lb:=by unfold Dat at h1;exact h1
  subst f0 f1
  exact ⟨r,_,rfl,hr,(show atI _ ((0:Nat):Int)=_ from y_c rfl),(fun _=>(show atI _ ((1:Nat):Int)=_ from y_c rfl)),fun n e=>nomatch e⟩
 | some n =>
  obtain ⟨r,xs,rfl,hr,hx⟩:=Dat.tupI h
  obtain ⟨x0,r0,rfl,h0,hx⟩:=hx.consI
  obtain ⟨xn,rn,rfl,hn,hx⟩:=hx.consI
  obtain ⟨x1,r1,rfl,h1,hx⟩:=hx.consI
  have f0:x0 = .str "times" := by unfold Dat at h0;exact h0
  have fn:=hn.intI
  have f1:x1 = .str lb:=by unfold Dat at h1;exact h1
  subst f0 fn f1
  exact ⟨r,_,rfl,hr,(show atI _ ((0:Nat):Int)=_ from y_c rfl),(fun e=>nomatch e),fun m e=>by cases e;exact ⟨(show atI _ ((1:Nat):Int)=_ from y_c rfl),(show atI _ ((2:Nat):Int)=_ from y_c rfl)⟩⟩
def digC(k:Nat):Str:=⟨#[("01234567" : Str).cps.toList.getD k 0]⟩
theorem digC_eq:∀ k,k<8->digC k=digT k:=by decide +kernel
theorem dig_at:∀ k,k<8->("01234567" : Str).cps.toList[k]? = some (("01234567" : Str).cps.toList.getD k 0):=by decide +kernel
def costL(P:Pt)(s0 s1 many first:Int):List Int:=[many*((P.ins.length:Int)+s0)+(P.outs.length:Int),first+(many-1)*(P.ins.length:Int)+many*s1+(P.outs.length:Int)]
def sp_cost:Sp:=fun vs H Q _=>∃ (P:Pt) (v:V) (sz:Addr) (s0 s1 many first:Int),vs=[v,.ref sz,.int many,.int first]/\Dat H P.dat v/\H sz=some (.lst [.int s0,.int s1])/\1<=many/\many<=8/\∀ p,H p=none->Q (.ref p) (upd H p (.lst ((costL P s0 s1 many first).map V.int)))
def lkL(Ps:List Pt)(nm:Str):Option Pt:=Ps.find? fun q=>decide (q.nm=nm)
def GdR(lk:Str->Option Pt):Rw->Prop
 | .wire _ _ s=>SayD 5 s
 | .box _ _ _ s=>SayD 5 s
 | .use _ _ nm ss _=>(∃ q,lk nm=some q)/\∀ s∈ss,SayD 5 s
def Gd1(lk:Str->Option Pt)(P:Pt):Prop:=∀ r∈P.rows,GdR lk r
def GdA(lk:Str->Option Pt):Prop:=∀ nm q,lk nm=some q->Gd1 lk q
def sp_Lspr(n:Nat):Sp:=fun vs H Q _=>∃ (pl:Addr) (vs':List V) (Ps:List Pt) (P:Pt) (v:V) (a:Str),vs=[.ref pl,v,.str a]/\H pl=some (.lst vs')/\Dats H (Ps.map Pt.dat) vs'/\Ps.length<=100/\Dat H P.dat v/\POk (lkL Ps) n P a.length/\GdA (lkL Ps)/\Gd1 (lkL Ps) P/\(rowsF (lkL Ps) n P a).length<=10000 /\
 ∀ p xs H',H p=none->Same H H'->H' p=some (.lst xs)->Dats H' ((rowsF (lkL Ps) n P a).map Rw.dat) xs->Q (.ref p) H'
theorem wd_ne1(c:Option Nat):decide (V.str (wdC c)=V.str "wire")=false:=by
 cases c with
 | none=>show decide (V.str "part" = V.str "wire")=false;decide
 | some n=>show decide (V.str "times" = V.str "wire")=false;decide
theorem wd_ne2(c:Option Nat):decide (V.str (wdC c)=V.str "box")=false:=by
 cases c with
 | none=>show decide (V.str "part" = V.str "box")=false;decide
 | some n=>show decide (V.str "times" = V.str "box")=false;decide
theorem lkL_hd{Ps:List Pt}{nm:Str}{q:Pt}(h:lkL Ps nm=some q){ws:List (Pt×V)}(hf:ws.map Prod.fst=Ps.filter fun q=>decide (q.nm=nm)):∃ v ws',ws=(q,v)::ws':=by
 unfold lkL at h
 rw [<-List.head?_filter,<-hf] at h
 cases ws with
 | nil=>cases h
 | cons w ws =>
  obtain ⟨w1,w2⟩:=w
  cases h
  exact ⟨w2,ws,rfl⟩
theorem dot_app{a b:Str}(ha:dotF a)(hb:dotF b):dotF (a++b):=by
 unfold dotF at *
 rw [cps_app]
 exact fun h=>(List.mem_append.mp h).elim ha hb
theorem dot_one{c:Nat}(h:c≠46):dotF ⟨#[c]⟩:=fun e=>h (List.mem_singleton.mp e).symm
theorem dot_nil:dotF "" := by
 unfold dotF
 decide +kernel
theorem dot_join:∀ {us:List Str},(∀ u∈us,dotF u)->dotF (Txt.join "" us):=by
 intro us h
 rw [show Txt.join "" us=Str.join "" us from StrLaws.glued_eq_join "" us]
 induction us with
 | nil=>exact dot_nil
 | cons a r ih =>
  cases r with
  | nil=>exact h a List.mem_cons_self
  | cons b r =>
   show dotF (a ++ "" ++ Str.join "" (b::r))
   exact dot_app (dot_app (h a List.mem_cons_self) dot_nil) (ih fun u hu=>h u (List.mem_cons_of_mem _ hu))
theorem abc_dot:∀ c∈("abcdefghijklmnopqrstuvwxyz" : Str).cps.toList,c≠46:=by decide +kernel
theorem letters_dot(k:Nat):letters.cps.toList.getD k 0≠46:=by
 have h:∀ c∈letters.cps.toList,c≠46:=by decide +kernel
 rw [List.getD_eq_getElem?_getD]
 cases e:letters.cps.toList[k]? with
 | none=>decide
 | some c=>exact h c (List.mem_of_getElem? e)
theorem nmQ_dot{a b:Str}(ha:dotF a)(hb:dotF b)(k:Nat):dotF (nmQ a b k):=by
 unfold nmQ nmK
 refine dot_app (dot_app (dot_app ha (dot_one (letters_dot k))) hb) ?_
 split
 ·unfold dotF
  decide +kernel
 ·exact dot_nil
def sp_poolD:Sp:=fun vs H Q _=>∃ (l:Addr) (m:Nat),vs=[.ref l,.int (m:Int)]/\Bag H l/\m<=24/\∀ p (zs:List Str) H',zs.length=m->zs.Nodup->(∀ z∈zs,(z.length<=20/\PyData.strOk z=true)/\dotF z)->p≠l->H p=none->Bg l H H'->H' p=some (.lst (zs.map V.str))->Q (.ref p) H'
def UseJ(q:Pt)(c:Option Nat)(ss:List PyData)(os:List Str):Prop:=ss.length=q.ins.length/\os.length=q.outs.length/\(∀ s∈ss,SayD 5 s)/\(∀ o∈os,Sh o)/\∀ n,c=some n->(1<=n/\n<=8)/\q.ins.length=q.outs.length
def RwJ(lk:Str->Option Pt)(r:Rw):Prop:=RwI r\/∃ c lb nm ss os q,r = .use c lb nm ss os/\Sh lb/\lk nm=some q/\UseJ q c ss os
structure PtJ(lk:Str->Option Pt)(P:Pt):Prop where
 nm:Sh P.nm
 ins:∀ d∈P.ins,DrOk d
 outs:∀ d∈P.outs,DrOk d
 il:P.ins.length<=3
 ol:P.outs.length<=3
 rl:P.rows.length<=20
 rows:∀ r∈P.rows,RwJ lk r
 ok:NmOk P
inductive Good:List Pt->Prop
 | nil:Good []
 | snoc {Ps:List Pt} {P:Pt}:Good Ps->PtJ (lkL Ps) P->(∀ q∈Ps,q.nm≠P.nm)->(brB (lkA Ps) P=false->P.outs=[])->Good (Ps++[P])
theorem lkL_snoc(Ps:List Pt)(P:Pt)(nm:Str):lkL (Ps++[P]) nm=match lkL Ps nm with
  | some q=>some q
  | none=>if P.nm=nm then some P else none:=by
 unfold lkL
 rw [List.find?_append]
 cases Ps.find? fun q=>decide (q.nm=nm) with
 | some q=>rfl
 | none =>
  rw [Option.none_or,List.find?_cons]
  by_cases e:P.nm=nm
  ·simp [e]
  ·simp [e]
theorem lkL_old{Ps:List Pt}{P q:Pt}{nm:Str}(h:lkL Ps nm=some q):lkL (Ps++[P]) nm=some q:=by rw [lkL_snoc,h]
theorem lkL_new{Ps:List Pt}{P:Pt}{nm:Str}(h:lkL Ps nm=none):lkL (Ps++[P]) nm=if P.nm=nm then some P else none:=by rw [lkL_snoc,h]
theorem lkL_mem{Ps:List Pt}{q:Pt}{nm:Str}(h:lkL Ps nm=some q):q∈Ps/\q.nm=nm:=by
 unfold lkL at h
 exact ⟨List.mem_of_find?_eq_some h,by have:=List.find?_some h;simpa using this⟩
theorem lkA_snoc(Ps:List Pt)(P:Pt):lkA (Ps++[P])=lkP (lkA Ps) P:=by
 unfold lkA
 rw [List.foldl_append]
 rfl
theorem POk.deep{lk:Str->Option Pt}:∀ {n:Nat} {P:Pt} {L:Nat},POk lk n P L->POk lk (n+1) P L
 | 0,_,_,h=>h.elim
 | n+1,P,L,h=>by
  obtain ⟨h0,h1,h2,h3,h4,h5,h6⟩:=h
  refine ⟨h0,h1,h2,h3,h4,h5,fun r hr=>?_⟩
  have:=h6 r hr
  cases r with
  | wire x w s=>exact this
  | box x w f s=>exact this
  | use c lb nm ss os =>
   obtain ⟨a1,a2,a3,a5,a4⟩:=this
   exact ⟨a1,a2,a3,a5,fun q hq=>⟨(a4 q hq).1,(a4 q hq).2.1,(a4 q hq).2.2.1,POk.deep (a4 q hq).2.2.2⟩⟩
theorem POk.sub{lk lk':Str->Option Pt}(hs:∀ nm q,lk' nm=some q->lk nm=some q):∀ {n:Nat} {P:Pt} {L:Nat},POk lk n P L->POk lk' n P L
 | 0,_,_,h=>h.elim
 | n+1,P,L,h=>by
  obtain ⟨h0,h1,h2,h3,h4,h5,h6⟩:=h
  refine ⟨h0,h1,h2,h3,h4,h5,fun r hr=>?_⟩
  have:=h6 r hr
  cases r with
  | wire x w s=>exact this
  | box x w f s=>exact this
  | use c lb nm ss os =>
   obtain ⟨a1,a2,a3,a5,a4⟩:=this
   exact ⟨a1,a2,a3,a5,fun q hq=>⟨(a4 q (hs nm q hq)).1,(a4 q (hs nm q hq)).2.1,(a4 q (hs nm q hq)).2.2.1,POk.sub hs (a4 q (hs nm q hq)).2.2.2⟩⟩
theorem pok_of{lk lk':Str->Option Pt}(ag:∀ nm q,lk nm=some q->lk' nm=some q){P:Pt}(hP:PtJ lk P){n L:Nat}(hn:∀ nm q,lk nm=some q->POk lk' n q (L+200))(hL:L<=10000):POk lk' (n+1) P L:=by
 have il:=hP.il
 have ol:=hP.ol
 have rl:=hP.rl
 refine ⟨hL,fun d hd=>Nat.le_trans (hP.ins d hd).1.1 (by decide),fun d hd=>Nat.le_trans (hP.outs d hd).1.1 (by decide),by lia,by lia,by lia,fun r hr=>?_⟩
 rcases hP.rows r hr with h | ⟨c,lb,nm,ss,os,q0,rfl,hlb,hq0,k1,k2,k3,k4,k5⟩
 ·exact rwok_I h
 ·refine ⟨Nat.le_trans hlb.1 (by decide),fun s hs=>(k3 s hs).up (by decide),fun o ho=>Nat.le_trans (k4 o ho).1 (by decide),fun n e=>(k5 n e).1.2,fun q hq=>?_⟩
  rw [ag nm q0 hq0] at hq
  cases hq
  exact ⟨k1,k2,fun n e=>⟨(k5 n e).1.1,(k5 n e).2⟩,hn nm q0 hq0⟩
theorem good_pok{Ps:List Pt}(h:Good Ps):∀ {lk':Str->Option Pt},(∀ nm q,lkL Ps nm=some q->lk' nm=some q)->∀ q∈Ps,∀ L,L+200*Ps.length<=10000->POk lk' Ps.length q L:=by
 induction h with
 | nil=>intro lk' _ q hq;exact nomatch hq
 | @snoc Ps P hg hP hne hbr ih =>
  intro lk' ag q hq L hL
  rw [List.length_append] at hL ⊢
  have hL':L+200*(Ps.length+1)<=10000:=hL
  have ag':∀ nm q,lkL Ps nm=some q->lk' nm=some q:=fun nm q e=>ag nm q (lkL_old e)
  show POk lk' (Ps.length+1) q L
  rcases List.mem_append.mp hq with hq | hq
  ·exact (ih ag' q hq L (by lia)).deep
  ·rw [List.mem_singleton.mp hq]
   exact pok_of ag' hP (fun nm q e=>ih ag' q (lkL_mem e).1 (L+200) (by lia)) (by lia)
def Dead(Ps:List Pt)(q:Pt):Prop:=q.ins=[]/\q.outs=[]/\∀ r∈q.rows,∃ c lb nm ss os q',r = .use c lb nm ss os/\lkL Ps nm=some q'/\lkA Ps nm=none
theorem lkA_old{Ps:List Pt}{P q:Pt}{nm:Str}(hne:∀ q∈Ps,q.nm≠P.nm)(h:lkL Ps nm=some q):lkA (Ps++[P]) nm=lkA Ps nm:=by
 rw [lkA_snoc]
 unfold lkP
 obtain ⟨hm,rfl⟩:=lkL_mem h
 split
 ·show (if q.nm=P.nm then some P else lkA Ps q.nm)=_
  rw [if_neg (hne q hm)]
 ·rfl
theorem good_dead{Ps:List Pt}(h:Good Ps):(∀ nm q,lkL Ps nm=some q->lkA Ps nm=some q\/(lkA Ps nm=none/\Dead Ps q))/\∀ nm,lkL Ps nm=none->lkA Ps nm=none:=by
 induction h with
 | nil=>exact ⟨(fun nm q e=>by cases e),fun nm _=>rfl⟩
 | @snoc Ps P hg hP hne hbr ih =>
  obtain ⟨i1,i2⟩:=ih
  have up:∀ q,Dead Ps q->Dead (Ps++[P]) q:=fun q hd=>by
   refine ⟨hd.1,hd.2.1,fun r hr=>?_⟩
   obtain ⟨c,lb,nm,ss,os,q',e,e1,e2⟩:=hd.2.2 r hr
   exact ⟨c,lb,nm,ss,os,q',e,lkL_old e1,by rw [lkA_old hne e1];exact e2⟩
  refine ⟨fun nm q e=>?_,fun nm e=>?_⟩
  ·cases e0:lkL Ps nm with
   | some q0 =>
    rw [lkL_old e0] at e
    cases e
    rw [lkA_old hne e0]
    rcases i1 nm q e0 with h | ⟨h,hd⟩
    ·exact .inl h
    ·exact .inr ⟨h,up q hd⟩
   | none =>
    rw [lkL_new e0] at e
    split at e
    ·rename_i en
     cases e
     have ea:=i2 nm e0
     rw [lkA_snoc]
     unfold lkP
     by_cases c:brB (lkA Ps) P=true
     ·rw [if_pos c]
      show (if nm=P.nm then some P else lkA Ps nm)=some P\/_
      rw [if_pos en.symm]
      exact .inl rfl
     ·rw [if_neg c]
      refine .inr ⟨ea,?_⟩
      have c':=Bool.eq_false_iff.mpr c
      have ho:=hbr c'
      unfold brB at c
      rw [Bool.or_eq_true,not_or] at c
      have hi:P.ins=[]:=List.eq_nil_of_length_eq_zero (by have:=c.1;rw [decide_eq_true_iff] at this;lia)
      refine ⟨hi,ho,fun r hr=>?_⟩
      rcases hP.rows r hr with h | ⟨cc,lb,nm',ss,os,q0,er,_,hq0,_⟩
      ·exfalso
       apply c.2
       rw [List.any_eq_true]
       refine ⟨r,hr,?_⟩
       rcases h with ⟨x,w,s,rfl,_⟩ | ⟨x,w,f,s,rfl,_⟩<;>rfl
      ·refine ⟨cc,lb,nm',ss,os,q0,er,lkL_old hq0,?_⟩
       rw [lkA_old hne hq0]
       cases e3:lkA Ps nm' with
       | none=>rfl
       | some z =>
        exfalso
        apply c.2
        rw [List.any_eq_true]
        refine ⟨r,hr,?_⟩
        rw [er]
        show (lkA Ps nm').isSome=true
        rw [e3]
        rfl
    ·cases e
  ·cases e0:lkL Ps nm with
   | some q0=>rw [lkL_old e0] at e;cases e
   | none =>
    rw [lkL_new e0] at e
    split at e
    ·cases e
    ·rename_i en
     rw [lkA_snoc]
     unfold lkP
     split
     ·show (if nm=P.nm then some P else lkA Ps nm)=none
      rw [if_neg (fun z=>en z.symm)]
      exact i2 nm e0
     ·exact i2 nm e0
theorem copF_nil{rec:Pt->Str->List Rw}{q:Pt}(hi:q.ins=[]):∀ {fs:List Str} {ss:List PyData},(∀ f,rec q f=[])->copF rec q fs ss=[]
 | [],_,_=>rfl
 | f::fs,ss,h=>by
  show inW q f ss++rec q f++copF rec q fs (otW q f)=[]
  rw [copF_nil hi h,h f]
  unfold inW
  rw [hi]
  simp
theorem useF_nil{rec:Pt->Str->List Rw}{a:Str}{q:Pt}{c:Option Nat}{lb:Str}{ss:List PyData}{os:List Str}(hi:q.ins=[])(ho:q.outs=[])(h:∀ f,rec q f=[]):useF rec a q c lb ss os=[]:=by
 unfold useF
 rw [copF_nil hi h,ho]
 simp
theorem dead_rows{Ps:List Pt}(h:Good Ps):∀ {n:Nat} {q:Pt} {a:Str},Dead Ps q->rowsF (lkL Ps) n q a=[]
 | 0,_,_,_=>rfl
 | n+1,q,a,hd=>by
  show q.rows.flatMap (rowF (lkL Ps) (rowsF (lkL Ps) n) a)=[]
  rw [List.flatMap_eq_nil_iff]
  intro r hr
  obtain ⟨c,lb,nm,ss,os,q',rfl,e1,e2⟩:=hd.2.2 r hr
  rw [x_g e1]
  rcases (good_dead h).1 nm q' e1 with z | ⟨_,hd'⟩
  ·rw [e2] at z;cases z
  ·exact useF_nil hd'.1 hd'.2.1 fun f=>dead_rows h hd'
theorem copF_congr{rec rec':Pt->Str->List Rw}{q:Pt}(h:∀ f,rec q f=rec' q f):∀ {fs:List Str} {ss:List PyData},copF rec q fs ss=copF rec' q fs ss
 | [],_=>rfl
 | f::fs,ss=>by
  show inW q f ss++rec q f++copF rec q fs (otW q f)=inW q f ss++rec' q f++copF rec' q fs (otW q f)
  rw [h f,copF_congr h]
theorem rows_LA{Ps:List Pt}(h:Good Ps):∀ {n:Nat} {P:Pt} {a:Str},(∀ r∈P.rows,RwJ (lkL Ps) r)->(∀ nm q,lkL Ps nm=some q->∀ r∈q.rows,RwJ (lkL Ps) r)->rowsF (lkL Ps) n P a=rowsF (lkA Ps) n P a
 | 0,_,_,_,_=>rfl
 | n+1,P,a,hr,hk=>by
  show P.rows.flatMap (rowF (lkL Ps) (rowsF (lkL Ps) n) a)=P.rows.flatMap (rowF (lkA Ps) (rowsF (lkA Ps) n) a)
  refine flat_congr fun r hm=>?_
  rcases hr r hm with h' | ⟨c,lb,nm,ss,os,q,rfl,_,hq,_⟩
  ·rcases h' with ⟨x,w,s,rfl,_⟩ | ⟨x,w,f,s,rfl,_⟩<;>rfl
  ·rw [x_g hq]
   rcases (good_dead h).1 nm q hq with z | ⟨z,hd⟩
   ·rw [x_g z]
    unfold useF
    rw [copF_congr fun f=>rows_LA h (hk nm q hq) hk]
   ·rw [rowF_none z]
    exact useF_nil hd.1 hd.2.1 fun f=>dead_rows h hd
theorem len_rows{lk:Str->Option Pt}{n:Nat}{P:Pt}{L:Nat}(h:POk lk n P L)(a:Str):(rowsF lk n P a).length=(pthF lk n P).length:=by
 have:=congrArg List.length (nm_rows h a)
 rwa [List.length_map,List.length_map] at this
theorem pthF_deep{lk:Str->Option Pt}:∀ {n:Nat} {P:Pt} {L:Nat},POk lk n P L->pthF lk (n+1) P=pthF lk n P
 | 0,_,_,h=>h.elim
 | n+1,P,L,h=>by
  obtain ⟨_,_,_,_,_,_,h6⟩:=h
  show P.rows.flatMap (pthR lk (pthF lk (n+1)))=P.rows.flatMap (pthR lk (pthF lk n))
  refine flat_congr fun r hr=>?_
  have:=h6 r hr
  cases r with
  | wire x w s=>rfl
  | box x w f s=>rfl
  | use c lb nm ss os =>
   cases e:lk nm with
   | none=>rw [pthR_none e,pthR_none e]
   | some q=>rw [x_f e,x_f e,pthF_deep (this.2.2.2.2 q e).2.2.2]
theorem pthF_more{lk lk':Str->Option Pt}(ag:∀ nm q,lk nm=some q->lk' nm=some q)(hk:∀ nm q,lk nm=some q->∀ r∈q.rows,RwJ lk r):∀ {n:Nat} {P:Pt},(∀ r∈P.rows,RwJ lk r)->pthF lk' n P=pthF lk n P
 | 0,_,_=>rfl
 | n+1,P,h=>by
  show P.rows.flatMap (pthR lk' (pthF lk' n))=P.rows.flatMap (pthR lk (pthF lk n))
  refine flat_congr fun r hr=>?_
  rcases h r hr with h' | ⟨c,lb,nm,ss,os,q,rfl,_,hq,_⟩
  ·rcases h' with ⟨x,w,s,rfl,_⟩ | ⟨x,w,f,s,rfl,_⟩<;>rfl
  ·rw [x_f hq,x_f (ag nm q hq),pthF_more ag hk (hk nm q hq)]
def cnt:Option Nat->Nat
 | none=>1
 | some n=>n
theorem pres_len(lb:Str)(c:Option Nat):(pres lb c).length=cnt c:=by
 cases c with
 | none=>rfl
 | some n=>show ((List.range n).map _).length=n;rw [List.length_map,List.length_range]
theorem flat_const{α β:Type}{l:List α}{f:α->List β}{k:Nat}(h:∀ a∈l,(f a).length=k):(l.flatMap f).length=l.length*k:=by
 induction l with
 | nil=>simp
 | cons a l ih =>
  rw [List.flatMap_cons,List.length_append,h a List.mem_cons_self,ih fun b hb=>h b (List.mem_cons_of_mem _ hb),List.length_cons,Nat.add_mul]
  lia
theorem use_len{lk:Str->Option Pt}{rec:Pt->List (List Str)}{c:Option Nat}{lb nm:Str}{ss:List PyData}{os:List Str}{q:Pt}(e:lk nm=some q):(pthR lk rec (.use c lb nm ss os)).length=cnt c*(q.ins.length+(rec q).length)+os.length:=by
 rw [x_f e,List.length_append,List.length_map,flat_const (k:=q.ins.length+(rec q).length) fun π _=>by rw [List.length_append,List.length_map,List.length_map],pres_len]
theorem RwJ.up{lk lk':Str->Option Pt}(ag:∀ nm q,lk nm=some q->lk' nm=some q){r:Rw}(h:RwJ lk r):RwJ lk' r:=by
 rcases h with h | ⟨c,lb,nm,ss,os,q,e,h1,h2,h3⟩
 ·exact .inl h
 ·exact .inr ⟨c,lb,nm,ss,os,q,e,h1,ag nm q h2,h3⟩
theorem x_s{Ps:List Pt}(h:Good Ps):∀ q∈Ps,PtJ (lkL Ps) q:=by
 induction h with
 | nil=>exact fun q hq=>nomatch hq
 | @snoc Ps P hg hP hne hbr ih =>
  have up:∀ q,PtJ (lkL Ps) q->PtJ (lkL (Ps++[P])) q:=fun q hq=>⟨hq.nm,hq.ins,hq.outs,hq.il,hq.ol,hq.rl,fun r hr=>(hq.rows r hr).up fun nm q e=>lkL_old e,hq.ok⟩
  intro q hq
  rcases List.mem_append.mp hq with hq | hq
  ·exact up q (ih q hq)
  ·rw [List.mem_singleton.mp hq]
   exact up P hP
theorem good_end{Ps:List Pt}(h:Good Ps)(h3:Ps.length<=3){P:Pt}(hP:P∈Ps):POk (lkL Ps) 3 P 0/\POk (lkA Ps) 3 P 0/\rowsF (lkA Ps) 3 P "" = rowsF (lkL Ps) 3 P "" /\ ((rowsF (lkL Ps) 3 P "").map nmR).Nodup/\(rowsF (lkL Ps) 3 P "").length=(pthF (lkL Ps) 3 P).length:=by
 have hp:=good_pok h (lk':=lkL Ps) (fun _ _ e=>e) P hP 0 (by lia)
 have hp3:POk (lkL Ps) 3 P 0:=by
  have:Ps.length=1\/Ps.length=2\/Ps.length=3:=by
   have:0<Ps.length:=List.length_pos_of_mem hP
   lia
  rcases this with e | e | e
  ·rw [e] at hp;exact hp.deep.deep
  ·rw [e] at hp;exact hp.deep
  ·rw [e] at hp;exact hp
 have hj:=x_s h
 have sub:∀ nm q,lkA Ps nm=some q->lkL Ps nm=some q:=fun nm q e=>by
  cases e0:lkL Ps nm with
  | none=>rw [(good_dead h).2 nm e0] at e;cases e
  | some q0 =>
   rcases (good_dead h).1 nm q0 e0 with z | ⟨z,_⟩
   ·rw [z] at e;exact e
   ·rw [z] at e;cases e
 exact ⟨hp3,hp3.sub sub,(rows_LA h (hj P hP).rows fun nm q e=>(hj q (lkL_mem e).1).rows).symm,rows_nodup (fun nm q e=>(hj q (lkL_mem e).1).ok) hp3 (hj P hP).ok "",len_rows hp3 ""⟩
def NmsD(H:Hp)(p:Addr)(zs:List Str):Prop:=H p=some (.lst (zs.map V.str))/\(∀ z∈zs,Sh z/\dotF z)/\zs.Nodup/\zs.length<=24
def sp_Luse:Sp:=fun vs H Q _=>∃ (l sz np wd lf:Addr) (v:V) (q:Pt) (zs:List Str) (kvs:List (Key×V)) (s0 s1 f0 f1:Int) (mk:Nat),vs=[.ref l,v,.ref sz,.ref np,.ref wd,.ref lf]/\Bag H l/\(∃ lk,PtJ lk q)/\noL q.dat=true/\Dat H q.dat v/\H sz=some (.lst [.int s0,.int s1])/\NmsD H np zs/\H wd=some (.dK kvs)/\Wd kvs mk/\mk<=20/\H lf=some (.lst [.int f0,.int f1])/\np≠l/\sz≠l/\sz≠np/\lf≠l/\lf≠np /\
 (∀ H',Bg l H H'->Q .non H') /\
 ∀ t vr cl c lb ss os zs' kvs' many first H',Kps [l,np,wd] H H'->Bag H' l->zs=os++zs'++[lb]->NmsD H' np zs'->H' wd=some (.dK kvs')->Wd kvs' (mk+os.length)->(os=[]->kvs'=kvs)->UseJ q c ss os->many=(cnt c:Int)->(costL q s0 s1 many first).head? = some (many*((q.ins.length:Int)+s0)+(q.outs.length:Int))->many*((q.ins.length:Int)+s0)+(q.outs.length:Int)<=f0->H' t=some (.tup [vr,.ref cl])->H cl=none->H' cl=some (.lst ((costL q s0 s1 many first).map V.int))->Dat H' (Rw.use c lb q.nm ss os).dat vr->Q (.ref t) H'
theorem Dats.strs{H:Hp}:∀ os:List Str,Dats H (os.map PyData.str) (os.map V.str)
 | []=>.nil
 | _::os=>.cons (Dat.str _) (Dats.strs os)
theorem asg_c{v:V}{k:Nat}{R:TS}{D:Ends}{σ:St}{H:Hp}(h:R D (σ.set k (some v)) H):tSeq (tAsg (tC v) (gName k)) R D σ H:=h
theorem RwJ.noL{lk:Str->Option Pt}{r:Rw}(h:RwJ lk r):L2.noL r.dat=true:=by
 rcases h with h | ⟨c,lb,nm,ss,os,q,rfl,_,_,h⟩
 ·exact h.noL
 ·exact noL_use fun s hs=>(h.2.2.1 s hs).noL
theorem PtJ.noL{lk:Str->Option Pt}{P:Pt}(h:PtJ lk P):L2.noL P.dat=true:=noL_pt fun r hr=>(h.rows r hr).noL
def RN(H:Hp)(p:Addr)(rows:List Rw):Prop:=(∃ xs,H p=some (.lst xs)/\Dats H (rows.map Rw.dat) xs)/\∀ r∈rows,noL r.dat=true
theorem noLs_rw{rows:List Rw}(h:∀ r∈rows,noL r.dat=true):noLs (rows.map Rw.dat)=true:=z_u fun d hd=>by
 obtain ⟨r,hr,rfl⟩:=List.mem_map.mp hd
 exact h r hr
theorem RN.kp{H H':Hp}{p:Addr}{rows:List Rw}{ls:List Addr}(h:RN H p rows)(k:Kps ls H H')(t:KeepT H H')(n:p∉ls):RN H' p rows:=by
 obtain ⟨⟨xs,e,d⟩,hr⟩:=h
 exact ⟨⟨xs,k _ _ n e,Dats.keepT t (noLs_rw hr) d⟩,hr⟩
theorem RN.same{H H':Hp}{p:Addr}{rows:List Rw}(h:RN H p rows)(s:Same H H'):RN H' p rows:=by
 obtain ⟨⟨xs,e,d⟩,hr⟩:=h
 exact ⟨⟨xs,s _ _ e,d.same s⟩,hr⟩
theorem RN.bg{H H':Hp}{l p:Addr}{rows:List Rw}(h:RN H p rows)(b:Bag H l)(g:Bg l H H')(n:p≠l):RN H' p rows:=by
 obtain ⟨⟨xs,e,d⟩,hr⟩:=h
 exact ⟨⟨xs,g.1 _ _ n e,Dats.keepT (g.keepT b) (noLs_rw hr) d⟩,hr⟩
theorem RN.set{H:Hp}{p a:Addr}{rows:List Rw}(h:RN H p rows){xs:List V}(e:H a=some (.lst xs))(n:p≠a)(o:HO):RN (upd H a o) p rows:=by
 obtain ⟨⟨ys,e',d⟩,hr⟩:=h
 exact ⟨⟨ys,by rw [z_j n];exact e',Dats.keepT (KeepT.lst e _) (noLs_rw hr) d⟩,hr⟩
def szN(Ps:List Pt)(q:Pt):Nat:=(pthF (lkL Ps) Ps.length q).length
def Szs(H:Hp)(sz:Addr)(Ps:List Pt)(ls:List Addr):Prop:=∃ ks:List (Key×V),H sz=some (.dK ks)/\ks.length<=Ps.length/\∀ q∈Ps,∃ (a:Addr) (s1:Int),valV ks (.inr q.nm)=some (.ref a)/\H a=some (.lst [.int (szN Ps q:Int),.int s1])/\a∉ls
theorem Szs.kp{H H':Hp}{sz:Addr}{Ps:List Pt}{ls ms:List Addr}(h:Szs H sz Ps ls)(k:Kps ms H H')(s:∀ a∈ms,a∈ls)(n:sz∉ms):Szs H' sz Ps ls:=by
 obtain ⟨ks,h1,h2,h3⟩:=h
 refine ⟨ks,k _ _ n h1,h2,fun q hq=>?_⟩
 obtain ⟨a,s1,e1,e2,e3⟩:=h3 q hq
 exact ⟨a,s1,e1,k _ _ (fun z=>e3 (s a z)) e2,e3⟩
theorem Szs.same{H H':Hp}{sz:Addr}{Ps:List Pt}{ls:List Addr}(h:Szs H sz Ps ls)(s:Same H H'):Szs H' sz Ps ls:=h.kp (ms:=[]) s.kps (fun _ h=>nomatch h) (List.not_mem_nil)
theorem Szs.more{H H':Hp}{sz l:Addr}{Ps:List Pt}{ls:List Addr}(h:Szs H sz Ps [l])(b:Bag H l)(g:Bg l H H')(hf:∀ a∈ls,a=l\/H a=none):Szs H' sz Ps ls:=by
 obtain ⟨ks,h1,h2,h3⟩:=h
 refine ⟨ks,g.1 _ _ (bag_dict b h1) h1,h2,fun q hq=>?_⟩
 obtain ⟨a,s1,e1,e2,e3⟩:=h3 q hq
 have na:a≠l:=fun e=>e3 (List.mem_singleton.mpr e)
 refine ⟨a,s1,e1,g.1 _ _ na e2,fun z=>?_⟩
 rcases hf a z with e | e
 ·exact na e
 ·rw [e] at e2;cases e2
theorem good_lk{Ps:List Pt}(h:Good Ps):∀ q∈Ps,lkL Ps q.nm=some q:=by
 induction h with
 | nil=>exact fun q hq=>nomatch hq
 | @snoc Ps P hg hP hne hbr ih =>
  intro q hq
  rcases List.mem_append.mp hq with hq | hq
  ·exact lkL_old (ih q hq)
  ·rw [List.mem_singleton.mp hq]
   have e:lkL Ps P.nm=none:=List.find?_eq_none.mpr fun q hq=>by simpa using hne q hq
   rw [lkL_new e,if_pos rfl]
theorem szN_old{Ps:List Pt}{P q:Pt}(hg:Good Ps)(hq:q∈Ps)(hl:Ps.length<=40):szN (Ps++[P]) q=szN Ps q:=by
 unfold szN
 have hj:=x_s hg
 rw [List.length_append]
 show (pthF (lkL (Ps++[P])) (Ps.length+1) q).length=_
 rw [pthF_more (lk:=lkL Ps) (fun nm q e=>lkL_old e) (fun nm q e=>(hj q (lkL_mem e).1).rows) (hj q hq).rows]
 rw [pthF_deep (good_pok hg (fun _ _ e=>e) q hq 0 (by lia))]
theorem szN_new{Ps:List Pt}{P:Pt}(hg:Good Ps)(hP:PtJ (lkL Ps) P):szN (Ps++[P]) P=(pthF (lkL Ps) (Ps.length+1) P).length:=by
 unfold szN
 have hj:=x_s hg
 rw [List.length_append]
 show (pthF (lkL (Ps++[P])) (Ps.length+1) P).length=_
 rw [pthF_more (lk:=lkL Ps) (fun nm q e=>lkL_old e) (fun nm q e=>(hj q (lkL_mem e).1).rows) hP.rows]
theorem sz_end{Ps:List Pt}(h:Good Ps)(h3:Ps.length<=3){P:Pt}(hP:P∈Ps):(pthF (lkL Ps) 3 P).length=szN Ps P:=by
 unfold szN
 have hp:=good_pok h (lk':=lkL Ps) (fun _ _ e=>e) P hP 0 (by lia)
 have:Ps.length=1\/Ps.length=2\/Ps.length=3:=by
  have:0<Ps.length:=List.length_pos_of_mem hP
  lia
 rcases this with e | e | e
 ·rw [e] at hp ⊢;rw [pthF_deep hp.deep,pthF_deep hp]
 ·rw [e] at hp ⊢;rw [pthF_deep hp]
 ·rw [e]
theorem use_cost{lk:Str->Option Pt}{rec:Pt->List (List Str)}{c:Option Nat}{lb:Str}{ss:List PyData}{os:List Str}{q:Pt}(e:lk q.nm=some q)(h:os.length=q.outs.length):(((pthR lk rec (.use c lb q.nm ss os)).length:Nat):Int)=(cnt c:Int)*((q.ins.length:Int)+((rec q).length:Int))+(q.outs.length:Int):=by
 rw [use_len e,h]
 simp
theorem ins_perm{α:Type}(l:List α)(i:Nat)(a:α):(l.take i++a::l.drop i).Perm (a::l):=by
 have h:=@List.perm_middle α a (l.take i) (l.drop i)
 rwa [List.take_append_drop] at h
theorem perm_defs{rows rows':List Rw}{r:Rw}(h:rows'.Perm (r::rows)):(rows'.flatMap defs).Perm (defs r++rows.flatMap defs):=h.flatMap_right defs
theorem perm_labs{rows rows':List Rw}{r:Rw}(h:rows'.Perm (r::rows)):(rows'.flatMap labs).Perm (labs r++rows.flatMap labs):=h.flatMap_right labs
theorem perm_len{α:Type}{rows rows':List Rw}{r:Rw}(f:Rw->List α)(h:rows'.Perm (r::rows)):(rows'.flatMap f).length=(f r).length+(rows.flatMap f).length:=by
 rw [(h.flatMap_right f).length_eq,List.flatMap_cons,List.length_append]
theorem RwI.one{lk:Str->Option Pt}{rec:Pt->List (List Str)}{r:Rw}(h:RwI r):(pthR lk rec r).length=1:=by
 rcases h with ⟨x,w,s,rfl,_⟩ | ⟨x,w,f,s,rfl,_⟩<;>rfl
theorem RwI.noLab{r:Rw}(h:RwI r):labs r=[]:=by
 rcases h with ⟨x,w,s,rfl,_⟩ | ⟨x,w,f,s,rfl,_⟩<;>rfl
theorem RwI.noDef{r:Rw}(h:RwI r):defs r≠[]:=by
 rcases h with ⟨x,w,s,rfl,_⟩ | ⟨x,w,f,s,rfl,_⟩<;>exact List.cons_ne_nil _ _
theorem flat_noLab{rows:List Rw}(h:∀ r∈rows,RwI r):rows.flatMap labs=[]:=List.flatMap_eq_nil_iff.mpr fun r hr=>(h r hr).noLab
theorem flat_one{lk:Str->Option Pt}{rec:Pt->List (List Str)}{rows:List Rw}(h:∀ r∈rows,RwI r):(rows.flatMap (pthR lk rec)).length=rows.length:=by
 rw [flat_const (k:=1) fun r hr=>(h r hr).one,Nat.mul_one]
def brR(lk:Str->Option Pt):Rw->Bool
 | .use _ _ nm _ _=>(lk nm).isSome
 | _=>true
theorem brB_of{lk:Str->Option Pt}{P:Pt}(h:brB lk P=false):P.ins=[]/\∀ r∈P.rows,brR lk r=false:=by
 unfold brB at h
 rw [Bool.or_eq_false_iff] at h
 refine ⟨List.eq_nil_of_length_eq_zero (by have:=h.1;rw [decide_eq_false_iff_not] at this;lia),fun r hr=>?_⟩
 have:=List.any_eq_false.mp h.2 r hr
 rw [Bool.not_eq_true] at this
 cases r<;>exact this
theorem dead_defs{Ps:List Pt}(h:Good Ps){r:Rw}(hr:RwJ (lkL Ps) r)(hb:brR (lkA Ps) r=false):defs r=[]:=by
 rcases hr with h' | ⟨c,lb,nm,ss,os,q,rfl,_,hq,hu⟩
 ·rcases h' with ⟨x,w,s,rfl,_⟩ | ⟨x,w,f,s,rfl,_⟩<;>cases hb
 ·rcases (good_dead h).1 nm q hq with z | ⟨_,hd⟩
  ·have hb':(lkA Ps nm).isSome=false:=hb
   rw [z] at hb'
   cases hb'
  ·have:=hu.2.1
   rw [hd.2.1] at this
   exact List.eq_nil_of_length_eq_zero this
theorem comp_pops9{K:PySem.W.Frag}{H:Hp}{n:Nat}{lo:Int}{l np:Addr}{zs:List Str}{S:V->St}{Fin:List V->Hp->Prop}(hS:∀ x,S x=[some x,some (.ref np),some (.ref l)])(hb:Bag H l)(hn:Nms H np zs)(hl:n<=zs.length)(ne:np≠l)
  (fin:∀ rs ds H',Kps [l,np] H H'->Bag H' l->Nms H' np (zs.drop n)->PrL H' rs ds->ds.length=n->ds.map Prod.fst=zs.take n->(∀ d∈ds,DrOk d)->Fin (rs.map V.ref) H') :
  CompW (Itr lo n) S tYes (tTup (tCons (tBM K "list" rPopAt (tVar 1) (tCons (tC (V.int 0)) tNil)) (tCons (tOp (rI0 fun i j=>V.int (i+j)) (tC (V.int 1)) (tCall y_v [] E0 (tCons (tVar 2) (tCons (tC (V.int 8)) tNil)))) tNil))) H Fin:=by
 have hz24:=hn.2.2
 refine comp_range (fun i ys H'=>∃ rs ds,ys=rs.map V.ref/\Kps [l,np] H H'/\Bag H' l/\Nms H' np (zs.drop i)/\PrL H' rs ds/\ds.length=i/\ds.map Prod.fst=zs.take i/\∀ d∈ds,DrOk d) ⟨[],[],rfl,Kps.refl,hb,hn,.nil,rfl,rfl,fun _ h=>nomatch h⟩ ?_ ?_ ?_
 ·rintro i ys H' hi ⟨rs,ds,rfl,_,_,_,hp,hd,_⟩
  rw [List.length_map,hp.length]
  exact y_b (by lia)
 ·rintro i ys H' hi ⟨rs,ds,rfl,k,b,nm,hp,hd,hdf,hdo⟩
  rw [hS]
  obtain ⟨z,hz⟩:∃ z,zs[i]? = some z:=⟨zs[i]'(by lia),List.getElem?_eq_getElem _⟩
  have ez:zs.drop i=z::zs.drop (i+1):=by
   obtain ⟨h,rfl⟩:=List.getElem?_eq_some_iff.mp hz
   exact List.drop_eq_getElem_cons h
  rw [ez] at nm
  unfold tYes
  refine iteT ⟨_,rfl,.inl ⟨rfl,_,SqL.of nm.1⟩,np,_,_,_,_,rfl,rfl,nm.1,by decide,by decide,pop0,rfl,?_⟩
  have k2:=k.set (a:=np) (by simp) (.lst ((zs.drop (i+1)).map V.str))
  have b2:=b.set ne (.lst ((zs.drop (i+1)).map V.str))
  have f2:=z_b (H:=H') (a:=np) (o:=.lst ((zs.drop (i+1)).map V.str))
  have p2:=hp.keepT (KeepT.lst nm.1 (.lst ((zs.drop (i+1)).map V.str)))
  show tCons _ _ _ (upd H' np (.lst ((zs.drop (i+1)).map V.str))) _
  generalize upd H' np (.lst ((zs.drop (i+1)).map V.str))=H2 at k2 b2 f2 p2 ⊢
  refine ⟨_,rfl,l,8,rfl,b2,by decide,by decide,fun d H3 d0 d1 g3=>⟨_,_,rfl,rfl,(by show 2<=sizeLine;decide),fun pt hpt=>?_⟩⟩
  have s4:=z_c hpt (.tup [.str z,.int (1+d)])
  have f3:=g3.1 _ _ ne f2
  refine ⟨rs++[pt],ds++[(z,1+d)],by rw [List.map_append];rfl,k2.trans ((g3.kps (by simp)).trans s4.kps),(g3.2.same s4).2,nm.nx (s4 _ _ f3),((p2.keepT (g3.keepT b2)).same s4).snoc z_b,by rw [List.length_append,hd];rfl,by rw [List.map_append,hdf,z_y hz];rfl,fun e he=>?_⟩
  rcases List.mem_append.mp he with h | h
  ·exact hdo e h
  ·rw [List.mem_singleton.mp h]
   exact ⟨hn.2.1 z (List.mem_of_getElem? hz),by show (1:Int)<=1+d;lia,by show 1+d<=(8:Int);lia⟩
 ·rintro ys H' ⟨rs,ds,rfl,k,b,nm,hp,hd,hdf,hdo⟩
  exact fin rs ds H' k b nm hp hd hdf hdo
theorem Wd.keysD{kvs:List (Key×V)}{m:Nat}(h:Wd kvs m):∃ ks:List Str,kvs.map (fun kv=>kV kv.1)=ks.map V.str/\ks.length=kvs.length/\∀ x∈ks,Sh x/\∃ w:Int,valV kvs (.inr x)=some (.int w)/\1<=w/\w<=8:=by
 obtain ⟨g,hs⟩:=h
 have go:∀ L:List (Key×V),(∀ p∈L,p∈kvs)->∃ ks:List Str,L.map (fun kv=>kV kv.1)=ks.map V.str/\ks.length=L.length/\∀ x∈ks,Sh x/\∃ w:Int,valV kvs (.inr x)=some (.int w)/\1<=w/\w<=8:=by
  intro L
  induction L with
  | nil=>exact fun _=>⟨[],rfl,rfl,fun _ h=>nomatch h⟩
  | cons p L ih =>
   intro hm
   obtain ⟨ks,h1,h2,h3⟩:=ih fun q hq=>hm q (List.mem_cons_of_mem _ hq)
   have hp:=hm p List.mem_cons_self
   obtain ⟨x,e,hx⟩:=hs p hp
   obtain ⟨y,i,ey,hi⟩:=g.1 p hp
   have hv:=g.2.1 p hp
   subst ey
   cases e
   refine ⟨x::ks,by rw [List.map_cons,h1];rfl,by rw [List.length_cons,List.length_cons,h2],fun u hu=>?_⟩
   rcases List.mem_cons.mp hu with rfl | hu
   ·exact ⟨hx,i,hv,hi⟩
   ·exact h3 u hu
 exact go kvs fun _ h=>h
structure RwD(Ps:List Pt)(r:Rw)(k0:Int):Prop where
 j:RwJ (lkL Ps) r
 k:k0=(((pthR (lkL Ps) (pthF (lkL Ps) Ps.length) r).length:Nat):Int)
 l:(defs r).length+(labs r).length<=4
def sp_rows9:Sp:=fun vs H Q _=>∃ (l pl sz np wd cp:Addr) (vs':List V) (Ps:List Pt) (zs:List Str) (kvs:List (Key×V)) (c0 c1:Int),vs=[.ref l,.ref pl,.ref sz,.ref np,.ref wd,.ref cp]/\Bag H l/\H pl=some (.lst vs')/\Dats H (Ps.map Pt.dat) vs'/\Good Ps/\Ps.length<=2/\Szs H sz Ps [l,np,wd]/\NmsD H np zs/\19<=zs.length/\H wd=some (.dK kvs)/\Wd kvs 5/\H cp=some (.lst [.int c0,.int c1])/\0<=c0/\np≠l/\pl≠l/\pl≠np/\sz≠wd/\cp≠l/\cp≠np /\
 ∀ t pr ps rows Dn Ln zs' kvs' s0 s1 H',Kps [l,np,wd] H H'->Bag H' l->zs=Dn++zs'++Ln->(rows.flatMap defs).Perm Dn->(rows.flatMap labs).Perm Ln->3<=zs'.length->Nms H' np zs'->H' wd=some (.dK kvs')->Wd kvs' 17->((∀ r∈rows,defs r=[])->kvs'=kvs)->rows.length<=4->(∀ r∈rows,RwJ (lkL Ps) r)->H' t=some (.tup [.ref pr,.ref ps])->(H pr=none/\H ps=none/\pr≠ps)->RN H' pr rows->H' ps=some (.lst [.int s0,.int s1])->s0=(((rows.flatMap (pthR (lkL Ps) (pthF (lkL Ps) Ps.length))).length:Nat):Int)->s0<=c0+4->Q (.ref t) H'
def sp_part9:Sp:=fun vs H Q _=>∃ (l pl sz cp:Addr) (nm:Str) (vs':List V) (Ps:List Pt) (c0 c1:Int),vs=[.ref l,.ref pl,.ref sz,.str nm,.ref cp]/\Bag H l/\Sh nm/\H cp=some (.lst [.int c0,.int c1])/\cp≠l/\9<=c0/\H pl=some (.lst vs')/\pl≠l/\Dats H (Ps.map Pt.dat) vs'/\Good Ps/\Ps.length<=2/\Szs H sz Ps [l] /\
 ∀ t P v ps s1 H',PtJ (lkL Ps) P->P.nm=nm->(brB (lkA Ps) P=false->P.outs=[])->Bg l H H'->H' t=some (.tup [v,.ref ps])->Dat H' P.dat v->H ps=none->ps≠l->H' ps=some (.lst [.int (((pthF (lkL Ps) (Ps.length+1) P).length:Nat):Int),.int s1])->(((pthF (lkL Ps) (Ps.length+1) P).length:Nat):Int)<=c0->Q (.ref t) H'
def sp_plan9:Sp:=fun vs H Q _=>∃ l:Addr,vs=[.ref l]/\Bag H l/\∀ pl vs' Ps H',Bg l H H'->H' pl=some (.lst vs')->Dats H' (Ps.map Pt.dat) vs'->Good Ps->1<=Ps.length->Ps.length<=3->(∀ P∈Ps,szN Ps P<=60)->pl≠l->Q (.ref pl) H'
theorem dig_ok:∀ k,k<8->PyData.strOk (digT k)=true:=by decide +kernel
theorem dot_ok:PyData.strOk "." = true:=by decide +kernel
theorem frnt_ok{a lb:Str}{c:Option Nat}(ha:PyData.strOk a=true)(hl:PyData.strOk lb=true)(hc:∀ n,c=some n->n<=8):∀ f∈frnt a lb c,PyData.strOk f=true:=by
 intro f hf
 cases c with
 | none =>
  rw [List.mem_singleton.mp hf]
  exact ok_app (ok_app ha hl) dot_ok
 | some n =>
  obtain ⟨k,hk,rfl⟩:=List.mem_map.mp hf
  have:=hc n rfl
  have:=List.mem_range.mp hk
  exact ok_app (ok_app (ok_app (ok_app ha hl) dot_ok) (dig_ok k (by lia))) dot_ok
theorem otW_dok{q:Pt}(ho:∀ d∈q.outs,DrOk d){f:Str}(hf:PyData.strOk f=true):∀ s∈otW q f,DOk 7 s:=fun s hs=>by
 obtain ⟨o,h,rfl⟩:=List.mem_map.mp hs
 exact (dok_wireD (ok_app hf (ho o h).1.2)).up (by decide)
theorem copF_dok{rec:Pt->Str->List Rw}{q:Pt}(hi:∀ d∈q.ins,DrOk d)(ho:∀ d∈q.outs,DrOk d):∀ {fs:List Str} {ss:List PyData},(∀ f∈fs,PyData.strOk f=true)->(∀ s∈ss,DOk 7 s)->(∀ f,PyData.strOk f=true->∀ r∈rec q f,DOk 8 r.dat)->(∀ r∈copF rec q fs ss,DOk 8 r.dat)/\∀ s∈lastS q fs ss,DOk 7 s
 | [],ss,_,h,_=>⟨(fun _ h=>nomatch h),h⟩
 | f::fs,ss,hf,h,hr=>by
  have hf0:=hf f List.mem_cons_self
  obtain ⟨i1,i2⟩:=copF_dok hi ho (fs:=fs) (ss:=otW q f) (fun g hg=>hf g (List.mem_cons_of_mem _ hg)) (otW_dok ho hf0) hr
  refine ⟨fun r hm=>?_,i2⟩
  rcases List.mem_append.mp hm with hm | hm
  ·rcases List.mem_append.mp hm with hm | hm
   ·obtain ⟨p,hp,rfl⟩:=List.mem_map.mp hm
    obtain ⟨p1,p2⟩:=List.of_mem_zip hp
    exact dok_wire (ok_app hf0 (hi _ p1).1.2) (h _ p2)
   ·exact hr f hf0 r hm
  ·exact i1 r hm
theorem rows_dok{lk:Str->Option Pt}(hk:∀ nm q,lk nm=some q->PtJ lk q):∀ {n:Nat} {P:Pt} {a:Str},PtJ lk P->PyData.strOk a=true->∀ r∈rowsF lk n P a,DOk 8 r.dat
 | 0,_,_,_,_,_,h=>nomatch h
 | n+1,P,a,hP,ha,r,h=>by
  obtain ⟨s,hs,h⟩:=List.mem_flatMap.mp h
  rcases hP.rows s hs with h' | ⟨c,lb,nm,ss,os,q,rfl,hlb,hq,k1,k2,k3,k4,k5⟩
  ·rcases h' with ⟨x,w,s,rfl,hx,hS⟩ | ⟨x,w,f,s,rfl,hx,hS⟩
   ·rw [List.mem_singleton.mp h,renF_up hS (show 5<=6 by decide)]
    exact dok_wire (ok_app ha hx.2) (dok_ren ha hS)
   ·rw [List.mem_singleton.mp h,renF_up hS (show 5<=6 by decide)]
    exact dok_box (ok_app ha hx.2) (dok_ren ha hS)
  ·rw [x_g hq] at h
   have hqJ:=hk nm q hq
   have hss:∀ s∈ss.map (renF a 6),DOk 7 s:=fun s hs=>by
    obtain ⟨s0,h0,rfl⟩:=List.mem_map.mp hs
    rw [renF_up (k3 s0 h0) (show 5<=6 by decide)]
    exact dok_ren ha (k3 s0 h0)
   obtain ⟨c1,c2⟩:=copF_dok (rec:=rowsF lk n) hqJ.ins hqJ.outs (fs:=frnt a lb c) (frnt_ok ha hlb.2 fun n e=>(k5 n e).1.2) hss fun f hf=>rows_dok hk hqJ hf
   rcases List.mem_append.mp h with h | h
   ·exact c1 r h
   ·obtain ⟨p,hp,rfl⟩:=List.mem_map.mp h
    obtain ⟨p1,p2⟩:=List.of_mem_zip hp
    exact dok_wire (ok_app ha (k4 _ p1).2) (c2 _ (List.of_mem_zip p2).2)
theorem RwJ.dok{lk:Str->Option Pt}(hk:∀ nm q,lk nm=some q->PtJ lk q)(hn:∀ nm q,lk nm=some q->q.nm=nm){r:Rw}(h:RwJ lk r):DOk 9 r.dat:=by
 rcases h with h | ⟨c,lb,nm,ss,os,q,rfl,hlb,hq,k1,k2,k3,k4,k5⟩
 ·exact h.dok.up (by decide)
 ·have hqJ:=hk nm q hq
  have il:=hqJ.il
  have ol:=hqJ.ol
  have hnm:PyData.strOk nm=true:=by rw [<-hn nm q hq];exact hqJ.nm.2
  have h4:DOk 8 (.tuple ss):=.tup (by lia) fun s hs=>dok_say (k3 s hs)
  have h5:DOk 8 (.tuple (os.map PyData.str)):=.tup (by rw [List.length_map];lia) fun s hs=>by
   obtain ⟨o,ho,rfl⟩:=List.mem_map.mp hs
   exact .str (k4 o ho).2
  cases c with
  | none =>
   refine .tup (by show 5<=10000;decide) fun e he=>?_
   simp only [List.mem_cons,List.not_mem_nil,or_false] at he
   rcases he with rfl | rfl | rfl | rfl | rfl
   ·exact .str (by decide +kernel)
   ·exact .str hlb.2
   ·exact .str hnm
   ·exact h4
   ·exact h5
  | some n =>
   refine .tup (by show 6<=10000;decide) fun e he=>?_
   simp only [List.mem_cons,List.not_mem_nil,or_false] at he
   rcases he with rfl | rfl | rfl | rfl | rfl | rfl
   ·exact .str (by decide +kernel)
   ·exact .int _
   ·exact .str hlb.2
   ·exact .str hnm
   ·exact h4
   ·exact h5
theorem good_dok{Ps:List Pt}(h:Good Ps):∀ P∈Ps,DOk 11 P.dat:=fun P hP=>by
 have hj:=x_s h
 have hk:∀ nm q,lkL Ps nm=some q->PtJ (lkL Ps) q:=fun nm q e=>hj q (lkL_mem e).1
 have p:=hj P hP
 have il:=p.il
 have ol:=p.ol
 have rl:=p.rl
 exact pt_dok (n:=7) p.nm (fun d hd=>(p.ins d hd).1) (fun d hd=>(p.outs d hd).1) (fun r hr=>(p.rows r hr).dok hk fun nm q e=>(lkL_mem e).2) (by lia) (by lia) (by lia)
theorem good_gd{Ps:List Pt}(h:Good Ps):GdA (lkL Ps)/\∀ P∈Ps,Gd1 (lkL Ps) P:=by
 have hj:=x_s h
 have g1:∀ P∈Ps,Gd1 (lkL Ps) P:=fun P hP r hr=>by
  rcases (hj P hP).rows r hr with h' | ⟨c,lb,nm,ss,os,q,rfl,_,hq,hu⟩
  ·rcases h' with ⟨x,w,s,rfl,_,hS⟩ | ⟨x,w,f,s,rfl,_,hS⟩
   ·exact hS
   ·exact hS
  ·exact ⟨⟨q,hq⟩,hu.2.2.1⟩
 exact ⟨fun nm q e=>g1 q (lkL_mem e).1,g1⟩
theorem nm_part{zs d b Dn O z4 Ln F:List Str}(ez:zs=d++(b++(Dn++(O++z4)++Ln)))(nd:zs.Nodup)(hF:F.Perm ((O++b)++Dn)):(d++F).Nodup:=by
 have e:zs=(d++(b++(Dn++O)))++(z4++Ln):=by rw [ez];simp only [List.append_assoc]
 rw [e] at nd
 have h1:=(List.pairwise_append.mp nd).1
 have h2:((O++b)++Dn).Perm (b++(Dn++O)):=by
  rw [List.append_assoc]
  refine List.perm_append_comm.trans ?_
  rw [List.append_assoc]
 exact ((hF.trans h2).append_left d).nodup_iff.mpr h1
theorem part_nm{lk:Str->Option Pt}{zs Dn O z4 Ln:List Str}{nm:Str}{ds bs outs:List (Str×Int)}{rows rows2 mr2:List Rw}(ez:zs=ds.map Prod.fst++(bs.map Prod.fst++(Dn++(O++z4)++Ln)))(nd:zs.Nodup)(hz:∀ z∈zs,dotF z)(pm:rows2.Perm (mr2++rows))(hI:∀ r∈mr2,RwI r)(hJ:∀ r∈rows,RwJ lk r)(em:mr2.flatMap defs=O++bs.map Prod.fst)(pD:(rows.flatMap defs).Perm Dn)(pL:(rows.flatMap labs).Perm Ln):NmOk ⟨nm,ds,outs,rows2⟩:=by
 have hF:(rows2.flatMap defs).Perm ((O++bs.map Prod.fst)++Dn):=by
  refine (pm.flatMap_right defs).trans ?_
  rw [List.flatMap_append,em]
  exact pD.append_left _
 have hL:(rows2.flatMap labs).Perm Ln:=by
  refine (pm.flatMap_right labs).trans ?_
  rw [List.flatMap_append,flat_noLab hI]
  exact pL
 have mD:∀ x∈rows2.flatMap defs,x∈zs:=fun x hx=>by
  have:=hF.mem_iff.mp hx
  rw [ez]
  simp only [List.mem_append] at this ⊢
  rcases this with (h | h) | h
  ·exact .inr (.inr (.inl (.inr (.inl h))))
  ·exact .inr (.inl h)
  ·exact .inr (.inr (.inl (.inl h)))
 have mL:∀ x∈rows2.flatMap labs,x∈zs:=fun x hx=>by
  have:=hL.mem_iff.mp hx
  rw [ez]
  simp only [List.mem_append]
  exact .inr (.inr (.inr this))
 refine ⟨nm_part ez nd hF,hL.nodup_iff.mpr ?_,fun d hd=>hz _ ?_,fun r hr x hx=>hz x (mD x (List.mem_flatMap.mpr ⟨r,hr,hx⟩)),fun r hr x hx=>hz x (mL x (List.mem_flatMap.mpr ⟨r,hr,hx⟩)),fun r hr n lb nm ss os e=>?_⟩
 ·rw [ez] at nd
  exact (List.pairwise_append.mp (List.pairwise_append.mp (List.pairwise_append.mp nd).2.1).2.1).2.1
 ·rw [ez]
  exact List.mem_append_left _ (List.mem_map.mpr ⟨d,hd,rfl⟩)
 ·rcases List.mem_append.mp (pm.mem_iff.mp hr) with h | h
  ·rcases hI r h with ⟨x,w,s,e',_⟩ | ⟨x,w,f,s,e',_⟩<;>rw [e'] at e<;>cases e
  ·rcases hJ r h with h' | ⟨c,lb',nm',ss',os',q,e',_,_,hu⟩
   ·rcases h' with ⟨x,w,s,e',_⟩ | ⟨x,w,f,s,e',_⟩<;>rw [e'] at e<;>cases e
   ·rw [e'] at e
    cases e
    exact (hu.2.2.2.2 n rfl).1.2
theorem part_br{Ps:List Pt}(hg:Good Ps){nm:Str}{ds bs outs:List (Str×Int)}{rows rows2 mr2:List Rw}(pm:rows2.Perm (mr2++rows))(hI:∀ r∈mr2,RwI r)(hJ:∀ r∈rows,RwJ (lkL Ps) r)(hb:bs.length<=mr2.length)(hO:ds=[]->bs=[]->(∀ r∈rows,defs r=[])->outs=[])(h:brB (lkA Ps) ⟨nm,ds,outs,rows2⟩=false):outs=[]:=by
 obtain ⟨h1,h2⟩:=brB_of h
 have hm:mr2=[]:=by
  cases mr2 with
  | nil=>rfl
  | cons r mr =>
   exfalso
   have hr:=h2 r (pm.mem_iff.mpr (List.mem_append_left _ List.mem_cons_self))
   exact (hI r List.mem_cons_self).noDef (dead_defs hg (.inl (hI r List.mem_cons_self)) hr)
 rw [hm] at hb
 exact hO h1 (List.eq_nil_of_length_eq_zero (Nat.le_zero.mp hb)) fun r hr=>dead_defs hg (hJ r hr) (h2 r (pm.mem_iff.mpr (List.mem_append_right _ hr)))
theorem part_sz{lk:Str->Option Pt}{n:Nat}{nm:Str}{ds outs:List (Str×Int)}{rows rows2 mr2:List Rw}(pm:rows2.Perm (mr2++rows))(hI:∀ r∈mr2,RwI r):(pthF lk (n+1) ⟨nm,ds,outs,rows2⟩).length=mr2.length+(rows.flatMap (pthR lk (pthF lk n))).length:=by
 show (rows2.flatMap (pthR lk (pthF lk n))).length=_
 rw [(pm.flatMap_right _).length_eq,List.flatMap_append,List.length_append,flat_one hI]
theorem ins_perm2{α:Type}{A B rows2:List α}{i:Nat}{r:α}(k:Nat)(h:rows2.Perm (A.take i++B))(e:A[i]? = some r):(rows2.take k++r::rows2.drop k).Perm (A.take (i+1)++B):=by
 rw [z_y e,List.append_assoc]
 exact (ins_perm rows2 k r).trans ((h.cons r).trans List.perm_middle.symm)
theorem Szs.sub{H:Hp}{sz:Addr}{Ps:List Pt}{ls ms:List Addr}(h:Szs H sz Ps ls)(s:∀ a∈ms,a∈ls):Szs H sz Ps ms:=by
 obtain ⟨ks,h1,h2,h3⟩:=h
 refine ⟨ks,h1,h2,fun q hq=>?_⟩
 obtain ⟨a,s1,e1,e2,e3⟩:=h3 q hq
 exact ⟨a,s1,e1,e2,fun z=>e3 (s a z)⟩
theorem Szs.snoc{H:Hp}{sz ps:Addr}{Ps:List Pt}{P:Pt}{ls:List Addr}{ks:List (Key×V)}{s1:Int}(hg:Good Ps)(hP:PtJ (lkL Ps) P)(hl:Ps.length<=40)(hne:∀ q∈Ps,q.nm≠P.nm)(hk:ks.length<=Ps.length)(h:∀ q∈Ps,∃ (a:Addr) (s1:Int),valV ks (.inr q.nm)=some (.ref a)/\H a=some (.lst [.int (szN Ps q:Int),.int s1])/\a∉ls)(hz:H sz=some (.dK (putK ks (.inr P.nm) (.ref ps))))(hp:H ps=some (.lst [.int (((pthF (lkL Ps) (Ps.length+1) P).length:Nat):Int),.int s1]))(hn:ps∉ls):Szs H sz (Ps++[P]) ls:=by
 refine ⟨_,hz,?_,fun q hq=>?_⟩
 ·rw [List.length_append]
  exact Nat.le_trans (x_q _ _ _) (Nat.succ_le_succ hk)
 ·rcases List.mem_append.mp hq with h' | h'
  ·obtain ⟨a,s1,e1,e2,e3⟩:=h q h'
   refine ⟨a,s1,?_,by rw [szN_old hg h' hl];exact e2,e3⟩
   rw [valV_put,if_neg (fun e=>hne q h' (Sum.inr.inj e))]
   exact e1
  ·rw [List.mem_singleton.mp h']
   refine ⟨ps,s1,?_,by rw [szN_new hg hP];exact hp,hn⟩
   rw [valV_put,if_pos rfl]
def isWB:Rw->Prop
 | .use _ _ _ _ _=>False
 | _=>True
theorem copF_wb{rec:Pt->Str->List Rw}{q:Pt}(hr:∀ f,∀ r∈rec q f,isWB r):∀ {fs:List Str} {ss:List PyData},∀ r∈copF rec q fs ss,isWB r
 | [],_,_,h=>nomatch h
 | f::fs,ss,r,h=>by
  rcases List.mem_append.mp h with h | h
  ·rcases List.mem_append.mp h with h | h
   ·obtain ⟨p,_,rfl⟩:=List.mem_map.mp h
    trivial
   ·exact hr f r h
  ·exact copF_wb hr r h
theorem rows_wb{lk:Str->Option Pt}:∀ {n:Nat} {P:Pt} {a:Str},∀ r∈rowsF lk n P a,isWB r
 | 0,_,_,_,h=>nomatch h
 | n+1,P,a,r,h=>by
  obtain ⟨s,hs,h⟩:=List.mem_flatMap.mp h
  cases s with
  | wire x w s=>rw [List.mem_singleton.mp h];trivial
  | box x w f s=>rw [List.mem_singleton.mp h];trivial
  | use c lb nm ss os =>
   cases e:lk nm with
   | none=>rw [rowF_none e] at h;exact nomatch h
   | some q =>
    rw [x_g e] at h
    rcases List.mem_append.mp h with h | h
    ·exact copF_wb (fun f=>rows_wb) r h
    ·obtain ⟨p,_,rfl⟩:=List.mem_map.mp h
     trivial
theorem wb_at{r:Rw}(h:isWB r){H:Hp}{v:V}(hD:Dat H r.dat v):∃ p xs,v = .ref p/\H p=some (.tup xs)/\atI xs 1=some (.str (nmR r)):=by
 cases r with
 | wire x w s =>
  obtain ⟨p,sv,rfl,hp,_⟩:=wire_at hD
  exact ⟨p,_,rfl,hp,(show atI _ ((1:Nat):Int)=_ from y_c rfl)⟩
 | box x w f s =>
  obtain ⟨p,sv,rfl,hp,_⟩:=box_at hD
  exact ⟨p,_,rfl,hp,(show atI _ ((1:Nat):Int)=_ from y_c rfl)⟩
 | use c lb nm ss os=>exact h.elim
open PySem PySem.Spec PyProof.Rows
section
variable {prog:Program} {w:World} {K:Type} [DecidableEq K] {knd:KeyKind prog w K} {A:Around} {E:Value->Shared->Prop} {s:Shared}
theorem setOf_moved{h h':Heap}{S:Addr}{n:Nat}{f:K->Bool}(x:Heap.SetOf knd h S f n)(e:∀ o,h.get? S=some o->h'.get? S=some o):Heap.SetOf knd h' S f n:=by
 obtain ⟨o,es,ep,t,ho,r⟩:=x
 exact ⟨o,es,ep,t,e _ ho,r⟩
theorem setOf_eq{h:Heap}{S:Addr}{n:Nat}{f g:K->Bool}(x:Heap.SetOf knd h S f n)(e:∀ k,f k=g k):Heap.SetOf knd h S g n:=by
 rw [<-funext e]
 exact x
theorem loopT{R:Result->Shared->Prop}{I:Addr}{fp wr:List Addr}{G:Array GenState->Array GenState->Prop}{n:Nat}{P:Nat->Value->Prop}{St:Nat->Shared->Prop}
  (W:WalksS prog w A.in1 I fp wr G n P St) (S:Addr) (far:S∉fp) (ks:List K) (d0:K) (nd:ks.Nodup) (hl:ks.length=n) (hn:n<4000) (h0:Heap)
  (ky:∀ i v,P i v->knd.is (ks.getD i d0) v=true/\v.scannable=true) (h0S:h0.get? S=none) (h0w:∀ b∈wr,h0.get? b=none) (uz:A.units+2<cLine) :
  ∀ (left i:Nat) (z:Shared),i+left=n->St i z->Ext h0 z.heap->Heap.SetOf knd z.heap S (fun k=>decide (k∈ks.take i)) i ->
   (∀ y,Moved (S::wr) G z y->Heap.SetOf knd y.heap S (fun k=>decide (k∈ks)) n->R (.ok (.ret .none)) y) ->
   codeAny (model prog w) A (.builtin "set.update.loop" ⟨[.ref S,.ref I],[]⟩) R z
 | 0,i,z,e,wi,ex,si,out=>by
  obtain rfl:i=n:=e
  have nw:S∉wr:=fun q=>far (W.sub S q)
  refine codeAny_builtin PyProof.Rows.F.entry_set_update_loop ?_
  rw [Around.under_plainId PyProof.Rows.F.plain_set_update_loop _]
  show wpAny _ A.in1 (pyNext (.ref I) >>= _) _ _ z
  refine wpAny_bind (W.done z _ _ wi fun y mv=>?_)
  rw [<-hl,List.take_length] at si
  rw [<-hl] at out
  exact wpAny_pure (out y (mv.mono fun b=>List.mem_cons_of_mem _) (setOf_moved si fun o q=>mv.heap S o nw q))
 | left+1,i,z,e,wi,ex,si,out=>by
  have nw:S∉wr:=fun q=>far (W.sub S q)
  have il:i<ks.length:=by lia
  refine codeAny_builtin PyProof.Rows.F.entry_set_update_loop ?_
  rw [Around.under_plainId PyProof.Rows.F.plain_set_update_loop _]
  show wpAny _ A.in1 (pyNext (.ref I) >>= _) _ _ z
  refine wpAny_bind (W.item i z _ _ (by lia) wi fun v y pv wj mv=>?_)
  obtain ⟨kb,sb⟩:=ky i v pv
  have sy:=setOf_moved si (h':=y.heap) fun o q=>mv.heap S o nw q
  have ey:Ext h0 y.heap:=fun c o q=>mv.heap c o (fun hc=>by rw [h0w c hc] at q;cases q) (ex c o q)
  show wpAny _ A.in1 (holding [v] (setAdd S v) >>= _) _ _ y
  refine wpAny_bind (wpAny_holding ?_)
  unfold setAdd
  refine wpAny_holding (wpAny_bind (knd.pyHash kb ?_))
  refine wpAny_setAddHashed_of (s:={ y with toks:=y.toks+1 }) kb sb sy (Nat.lt_trans (show i+1<4001 by lia) (by decide)) fun hn' only sn=>?_
  have sn:Heap.SetOf knd hn' S (fun k=>decide (k∈ks.take (i+1))) (i+1):=by
   have hfr:=takeD_fresh d0 il nd
   rw [decide_eq_false hfr] at sn
   refine setOf_eq sn fun k=>?_
   rw [takeD_snoc d0 il]
   by_cases h1:k∈ks.take i
   ·simp [h1]
   ·by_cases h2:k=ks.getD i d0
    ·simp [h2]
    ·simp [h1,h2]
  have oth:∀ {c:Addr} {o:Obj},c≠S->y.heap.get? c=some o->hn'.get? c=some o:=fun {c o} nc q=>by rw [only.2 c nc];exact q
  refine wpAny_pure ⟨plainId_quiet PyProof.Rows.F.plain_set_update_loop _,loopT W S far ks d0 nd hl hn h0 ky h0S h0w uz left (i+1) _ (by lia) (W.frame _ y _ _ wj (Nat.le_add_right _ _) fun c hc o q=>oth (fun z=>far (z▸hc)) q) (fun c o q=>oth (fun z=>by rw [z,h0S] at q;cases q) (ey c o q)) sn fun x mx sx=>?_⟩
  exact out x (Moved.trans W.gtrans ((mv.mono fun b=>List.mem_cons_of_mem _).then_heap (Nat.le_add_right _ _) fun c o hc q=>oth (fun z=>hc (z▸List.mem_cons_self)) q) mx) sx
set_option maxHeartbeats 3200000 in
theorem fill_key{B:Around}{l:Addr}{items:Array Value}{ks:List K}{d0:K}{led:Bool}{F:Fin->Shared->Prop}(calm:B.handled=none)(uz:B.units+4<cLine)(at_l:s.heap.IsList l items)(nd:ks.Nodup)(same:ks.length=items.size)(few:items.size<4000)
  (ky:∀ i v,items[i]? = some v->knd.is (ks.getD i d0) v=true/\v.scannable=true)
  (out:∀ (h':Heap) (tk:Nat),s.toks<=tk->Heap.SetOf knd h' s.heap.objs.size (fun k=>decide (k∈ks)) items.size->Ext s.heap h'->F (.done (.ret .none)) { s with heap:=h',toks:=tk }) :
  wpAny (model prog w) B (Builtin.«set.__init__» ⟨[.ref s.heap.objs.size,.ref l],[]⟩) F E (withSet s led):=by
 have lt_l:l<s.heap.objs.size:=by obtain ⟨o,e,_⟩:=at_l;exact Heap.lt_size e
 have at_l1:(withSet s led).heap.IsList l items:=at_l.push _
 obtain ⟨⟨c,d,dt,sl⟩,e_l,e_c,n_l,e_d⟩:=at_l1
 have e_c:c = .type "list" := e_c
 have e_d:dt = .seq items n_l:=e_d
 subst e_c e_d
 have n1:=PySem.F.sub_list_set
 have n2:=PySem.F.sub_list_frozenset
 have n3:(Value.type "list" == Value.type "dict")=false:=by decide
 have e_S:=withSet_at s led
 unfold mtSet at e_S
 unfold Builtin.«set.__init__» noKeywords Builtin.Frozenset.updateFrom
 generalize eIt:pyIter=It
 wp_walk
 subst eIt
 have at_l1:(withSet s led).heap.IsList l items:=at_l.push _
 refine wpAny_pyIter_list at_l1 (wpAny_bind (wpAny_runValue ?_))
 have sz:=withSet_size s led
 have calm1:B.in1.handled=none:=by simp [calm]
 have l_it:l≠(withSet s led).heap.objs.size:=by rw [sz];exact Nat.ne_of_lt (Nat.lt_succ_of_lt lt_l)
 have far:s.heap.objs.size∉[(withSet s led).heap.objs.size,l]:=by
  rw [sz]
  simp only [List.mem_cons,List.not_mem_nil,or_false,not_or]
  exact ⟨Nat.ne_of_lt (Nat.lt_succ_self _),Nat.ne_of_gt lt_l⟩
 refine loopT (knd:=knd) (Walks.list calm1 _ l l_it items).toS s.heap.objs.size far ks d0 nd same few s.heap ky (none_past (Nat.le_refl _)) (fun b q=>?_) (by lia) items.size 0 _ (Nat.zero_add _) ⟨⟨_,Heap.get?_push_size _ rfl,rfl,rfl⟩,at_l1.push _⟩ (fun b o q=>Heap.get?_push_of_some _ (withSet_old q))
  ⟨mtSet led,#[],0,_,Heap.get?_push_of_some _ (withSet_at s led),⟨rfl,rfl,rfl⟩,rfl,(fun e q=>by simp at q),(fun k=>by simp),by decide,rfl,rfl⟩ fun y mv sy=>?_
 ·rw [List.mem_singleton.mp q,sz]
  exact none_past (Nat.le_succ _)
 ·have tk:=mv.toks
  have kp:Ext s.heap y.heap:=fun b o q=>by
   have lb:=Heap.lt_size q
   refine mv.heap b o ?_ (Heap.get?_push_of_some _ (withSet_old q))
   rw [sz]
   simp only [List.mem_cons,List.not_mem_nil,or_false,not_or]
   exact ⟨Nat.ne_of_lt lb,Nat.ne_of_lt (Nat.lt_succ_of_lt lb)⟩
  obtain ⟨hy,gy,dy,ty,oy⟩:=y
  cases (show gy=s.gens from mv.gens)
  cases (show dy=s.drawn from mv.drawn)
  cases (show oy=s.os from mv.os)
  exact wpAny_pure (wpAny_pure (out hy ty tk sy kp))
set_option maxHeartbeats 3200000 in
theorem call_set_key{l:Addr}{items:Array Value}{ks:List K}{d0:K}{Q:Value->Shared->Prop}(calm:A.handled=none)(uz:A.units+8<cLine)(at_l:s.heap.IsList l items)(nd:ks.Nodup)(same:ks.length=items.size)(few:items.size<4000)
  (ky:∀ i v,items[i]? = some v->knd.is (ks.getD i d0) v=true/\v.scannable=true)
  (out:∀ (h':Heap) (tk:Nat),s.toks<=tk->Heap.SetOf knd h' s.heap.objs.size (fun k=>decide (k∈ks)) items.size->Ext s.heap h'->Q (.ref s.heap.objs.size) { s with heap:=h',toks:=tk }) :
  wpAny (model prog w) A (call (.type "set") [.ref l]) Q E s:=by
 obtain ⟨c0,cs,m0⟩:=PySem.F.called_set.mro
 have m1:=PySem.F.called_set.made
 have m2:=PySem.F.called_set.sub
 have m3:=PySem.F.called_set.notType
 have m4:=PySem.F.called_set.canCreate
 have m5:=PySem.F.typeCall_set_1 (.ref l)
 refine wpAny_call (codeAny_of_tree (show wpAny _ _ (callAny (.type "set") _) _ _ _ from wpAny_pure ⟨Code.quiet_builtin _ (by decide +kernel),codeAny_builtin PySem.F.entry_type_call ?_⟩))
 rw [Around.under_plain (weight_type_call_type "set" [.ref l] []) rfl]
 repeat (any_goals (first | assumption | wp_step))
 refine codeAny_mono (code_set_new_1 (.ref l) (E:=E) (Q₁:=fun x z=>∃ led,x = .ref s.heap.objs.size/\z=withSet s led) fun led=>⟨led,rfl,rfl⟩) fun r z got=>?_
 match r,got with
 | .error _,got=>exact got
 | .ok (.ret _),⟨led,e1,e2⟩ =>
  subst e1 e2
  have ty:Shared.TypeIs (withSet s led) (.ref s.heap.objs.size) "set" := ⟨_,withSet_at s led,rfl⟩
  have m6:=PySem.F.called_set.init.lookup
  have m7:=PySem.F.called_set.init.bind (.ref s.heap.objs.size)
  repeat (any_goals (first | assumption | wp_step))
  refine codeAny_mono (codeAny_call_builtin (R:=wants (fun x y=>x = .none/\∃ h' tk,s.toks<=tk/\y={ s with heap:=h',toks:=tk }/\Heap.SetOf knd h' s.heap.objs.size (fun k=>decide (k∈ks)) items.size/\Ext s.heap h') E) PySem.F.called_set.init.plain PySem.F.entry_set_init
   (check_set_init_1 ty (fill_key (d0:=d0) (by simp [calm]) (show A.units+1+1+4<cLine by lia) at_l nd same few ky fun h' tk a b c=>⟨rfl,h',tk,a,rfl,b,c⟩))) fun r2 y got2=>?_
  match r2,got2 with
  | .error _,got2=>exact got2
  | .ok (.ret _),⟨e3,h',tk,a,e4,b,c⟩ =>
   subst e3 e4
   repeat (any_goals (first | assumption | wp_step))
   exact out h' tk a b c
end
def SAtT(a:Addr)(n:Nat)(h:Heap):Prop:=n<4000/\∃ o es ep t,h.get? a=some o/\o.ExactSet/\o.data = .set es ep t/\t.fits es.size=true/\es.size=n
def STO(a:Addr)(n:Nat):HO:=.ext (SAtT a n)
theorem satT_stay{a:Addr}{n:Nat}:∀ h1 h2:Heap,SAtT a n h1->(∀ o,h1.get? a=some o->h2.get? a=some o)->SAtT a n h2:=fun h1 h2 u k=>by
 obtain ⟨z,o,es,ep,t,e,q⟩:=u
 exact ⟨z,o,es,ep,t,k _ e,q⟩
theorem vals_str:∀ {ks:List Str} {its:List Value},Vals (ks.map V.str) its->∀ (i:Nat) (v:Value),its[i]? = some v->∃ x,ks[i]? = some x/\RelV (.str x) v
 | [],_,h,i,v,hv=>by cases h;simp at hv
 | r::rs,_,h,i,v,hv=>by
  rw [List.map_cons] at h
  cases h with
  | cons h1 h2 =>
   match i,hv with
   | 0,hv =>
    have e:=Option.some.inj hv
    subst e
    exact ⟨r,rfl,h1⟩
   | i+1,hv=>exact vals_str h2 i v hv
def tSetT(xs:List V)(H:Hp)(Q:VK):Prop:=∃ (p:Addr) (ks:List Str),xs=[.ref p]/\H p=some (.lst (ks.map V.str))/\ks.Nodup/\ks.length<4000/\∀ a,H a=none->Q (.ref a) (upd H a (STO a ks.length))
theorem call_setT{X:Cx}(hc:X.calm=true)(hu:X.A.units+64<cLine):CallR X (.type "set") tSetT:=by
 intro pins s σ H xs us Q I r h
 obtain ⟨p,ks,rfl,hp,nd,hl,q⟩:=h
 obtain ⟨u,rfl,ru⟩:=vals1 r
 cases ru
 obtain ⟨its,rv,pl,hz⟩:=I.list (SqL.of hp)
 have hlen:its.length=ks.length:=by rw [<-rv.length,List.length_map]
 have nd':(ks.map (Sum.inr:Str->Key)).Nodup:=List.pairwise_map.mpr (nd.imp fun h e=>h (Sum.inr.inj e))
 refine call_set_key (knd:=mixKind X.prog X.w) (ks:=ks.map Sum.inr) (d0:=.inr "") (I.ok.hd hc) (by lia) pl.isList nd' (by rw [List.size_toArray,hlen,List.length_map]) (by rw [List.size_toArray,hlen];exact hl) (fun i v hv=>?_) fun h' tk hto hS hk=>?_
 ·have hv':its[i]? = some v:=by simpa using hv
  obtain ⟨x,hx,hr⟩:=vals_str rv i v hv'
  obtain ⟨t,rfl⟩:=hr
  rw [List.getD_eq_getElem?_getD,List.getElem?_map,hx]
  exact ⟨kV_is (k:=.inr x) ⟨t,rfl⟩,rfl⟩
 ·have hsz:its.toArray.size=ks.length:=by rw [List.size_toArray,hlen]
  rw [hsz] at hS
  obtain ⟨o,es,ep,t,h1,h2,h3,_,_,_,h4,h5⟩:=hS
  exact ⟨.ref s.heap.objs.size,_,I.laid (a:=s.heap.objs.size) (o:=STO s.heap.objs.size ks.length) hk (Nat.le_refl _) ⟨⟨hl,o,es,ep,t,h1,h2,h3,h4,h5⟩,⟨o,h1⟩,satT_stay⟩,rfl,q _ (I.hok.fresh (Nat.le_refl _))⟩
def tLenT(xs:List V)(H:Hp)(Q:VK):Prop:=∃ (a:Addr) (n:Nat),xs=[.ref a]/\H a=some (STO a n)/\Q (.int n) H
theorem call_lenT2{X:Cx}:CallR X (.builtin "len") tLenT:=by
 intro pins s σ H xs us Q I r h
 obtain ⟨a,n,rfl,hp,q⟩:=h
 obtain ⟨u,rfl,ru⟩:=vals1 r
 cases ru
 obtain ⟨⟨z,o,es,ep,t,h1,h2,h3,h4,h5⟩,_⟩:=(show ObjOk X.prog X.w H s.heap a (STO a n) from I.hok a _ hp)
 refine Calls.call_function_entry kind_len plain_len entry_len (args_len1 _) (wpAny_len_body_set h1 h2 h3 h4 ?_ ?_)
 ·rw [h5]
  exact Int.lt_of_le_of_lt (Int.ofNat_le.mpr (Nat.le_of_lt z)) (by decide)
 ·exact ⟨.int n,H,(I.tok _).tok _,⟨_,by rw [h5]⟩,q⟩
end L2
namespace K09
open PySem L2
def top(i:Nat):Stmt:=PySem.Challenge.pw_lampforge_k09_spread_copies.main.body.getD i (.Pass ⟨0,0,0,0⟩)
abbrev y_l:Stmt:=top 2
abbrev s_spread:Stmt:=top 4
abbrev y_i:Stmt:=top 5
abbrev x_m:Stmt:=top 6
abbrev y_j:Stmt:=top 7
abbrev y_r:Stmt:=top 8
abbrev x_l:Stmt:=top 9
abbrev s_L_bag:Stmt:=top 11
abbrev s_L_take:Stmt:=top 12
abbrev s_L_pool:Stmt:=top 13
abbrev x_i:Stmt:=top 14
abbrev s_L_leaf:Stmt:=top 15
abbrev x_k:Stmt:=top 16
abbrev x_j:Stmt:=top 17
abbrev x_h:Stmt:=top 18
abbrev s_L_cost:Stmt:=top 19
abbrev s_L_use:Stmt:=top 20
abbrev s_L_rows:Stmt:=top 21
abbrev s_L_part:Stmt:=top 22
abbrev s_L_plan:Stmt:=top 23
abbrev y_y:Stmt:=top 24
abbrev s_L_same:Stmt:=top 25
abbrev y_x:Stmt:=top 26
abbrev y_z:Stmt:=top 27
abbrev s_law:Stmt:=top 28
theorem sc_sayings_in:FnScope ["saying"] ["saying"] (z_h y_l):=⟨rfl,rfl,rfl,by decide +kernel,rfl,by decide +kernel,by decide +kernel⟩
theorem sc_spread:FnScope ["plan", "parts", "part", "last"] ["plan"] (z_h s_spread):=⟨rfl,rfl,rfl,by decide +kernel,rfl,by decide +kernel,by decide +kernel⟩
theorem sc_brings_rows:FnScope ["part", "parts"] ["part", "parts"] (z_h y_i):=⟨rfl,rfl,rfl,by decide +kernel,rfl,by decide +kernel,by decide +kernel⟩
theorem sc_rows_of:FnScope ["part", "ahead", "parts", "rows", "row"] ["part", "ahead", "parts"] (z_h x_m):=⟨rfl,rfl,rfl,by decide +kernel,rfl,by decide +kernel,by decide +kernel⟩
theorem sc_rows_of_use:FnScope ["row", "ahead", "parts", "inner", "rows", "sayings", "front", "port", "saying", "name"] ["row", "ahead", "parts"] (z_h y_j):=⟨rfl,rfl,rfl,by decide +kernel,rfl,by decide +kernel,by decide +kernel⟩
theorem sc_fronts_of:FnScope ["row", "ahead", "front"] ["row", "ahead"] (z_h y_r):=⟨rfl,rfl,rfl,by decide +kernel,rfl,by decide +kernel,by decide +kernel⟩
theorem sc_renamed:FnScope ["saying", "ahead", "inner"] ["saying", "ahead"] (z_h x_l):=⟨rfl,rfl,rfl,by decide +kernel,rfl,by decide +kernel,by decide +kernel⟩
theorem sc_L_bag:FnScope ["_law_script", "_law_at", "_law_cell", "_law_mix", "_law_k"] ["_law_script", "_law_at"] (z_h s_L_bag):=⟨rfl,rfl,rfl,by decide +kernel,rfl,by decide +kernel,by decide +kernel⟩
theorem sc_L_take:FnScope ["_law_bag_here", "_law_many", "_law_digit"] ["_law_bag_here", "_law_many"] (z_h s_L_take):=⟨rfl,rfl,rfl,by decide +kernel,rfl,by decide +kernel,by decide +kernel⟩
theorem sc_L_pool:FnScope ["_law_bag_here", "_law_many", "_law_stem", "_law_at", "_law_words", "_law_names", "_law_k", "_law_name"] ["_law_bag_here", "_law_many"] (z_h s_L_pool):=⟨rfl,rfl,rfl,by decide +kernel,rfl,by decide +kernel,by decide +kernel⟩
theorem sc_L_rooms:FnScope ["_law_bag_here", "_law_room", "_law_many", "_law_left", "_law_rooms_here", "_law_k", "_law_more"] ["_law_bag_here", "_law_room", "_law_many"] (z_h x_i):=⟨rfl,rfl,rfl,by decide +kernel,rfl,by decide +kernel,by decide +kernel⟩
theorem sc_L_leaf:FnScope ["_law_bag_here", "_law_widths", "_law_width", "_law_suits", "_law_wider", "_law_name"] ["_law_bag_here", "_law_widths", "_law_width"] (z_h s_L_leaf):=⟨rfl,rfl,rfl,by decide +kernel,rfl,by decide +kernel,by decide +kernel⟩
theorem sc_L_wants:FnScope ["_law_bag_here", "_law_word", "_law_width", "_law_one"] ["_law_bag_here", "_law_word", "_law_width"] (z_h x_k):=⟨rfl,rfl,rfl,by decide +kernel,rfl,by decide +kernel,by decide +kernel⟩
theorem sc_L_typed:FnScope ["_law_bag_here", "_law_widths", "_law_width", "_law_deep", "_law_room", "_law_words", "_law_word", "_law_many", "_law_wants_here", "_law_parts", "_law_want", "_law_more"] ["_law_bag_here", "_law_widths", "_law_width", "_law_deep", "_law_room"] (z_h x_j):=⟨rfl,rfl,rfl,by decide +kernel,rfl,by decide +kernel,by decide +kernel⟩
theorem sc_L_count:FnScope ["_law_saying"] ["_law_saying"] (z_h x_h):=⟨rfl,rfl,rfl,by decide +kernel,rfl,by decide +kernel,by decide +kernel⟩
theorem sc_L_cost:FnScope ["_law_part_here", "_law_size", "_law_many", "_law_first", "_law_ins", "_law_outs"] ["_law_part_here", "_law_size", "_law_many", "_law_first"] (z_h s_L_cost):=⟨rfl,rfl,rfl,by decide +kernel,rfl,by decide +kernel,by decide +kernel⟩
theorem sc_L_use:FnScope ["_law_bag_here", "_law_part_here", "_law_size", "_law_names", "_law_widths", "_law_left", "_law_doors", "_law_many", "_law_sayings", "_law_first", "_law_cost_here", "_law_outs", "_law_name", "_law_width"] ["_law_bag_here", "_law_part_here", "_law_size", "_law_names", "_law_widths", "_law_left"] (z_h s_L_use):=⟨rfl,rfl,rfl,by decide +kernel,rfl,by decide +kernel,by decide +kernel⟩
theorem sc_L_rows:FnScope ["_law_bag_here", "_law_plan_here", "_law_sizes", "_law_names", "_law_widths", "_law_cap", "_law_rows_here", "_law_size", "_law_k", "_law_use_here", "_law_part_here", "_law_width", "_law_row"] ["_law_bag_here", "_law_plan_here", "_law_sizes", "_law_names", "_law_widths", "_law_cap"] (z_h s_L_rows):=⟨rfl,rfl,rfl,by decide +kernel,rfl,by decide +kernel,by decide +kernel⟩
theorem sc_L_part:FnScope ["_law_bag_here", "_law_plan_here", "_law_sizes", "_law_name", "_law_cap", "_law_names", "_law_doors", "_law_boxes", "_law_widths", "_law_rows_here", "_law_size", "_law_some", "_law_at", "_law_outs", "_law_more", "_law_one", "_law_width", "_law_row"] ["_law_bag_here", "_law_plan_here", "_law_sizes", "_law_name", "_law_cap"] (z_h s_L_part):=⟨rfl,rfl,rfl,by decide +kernel,rfl,by decide +kernel,by decide +kernel⟩
theorem sc_L_plan:FnScope ["_law_bag_here", "_law_names", "_law_plan_here", "_law_sizes", "_law_many", "_law_k", "_law_part_here", "_law_size"] ["_law_bag_here"] (z_h s_L_plan):=⟨rfl,rfl,rfl,by decide +kernel,rfl,by decide +kernel,by decide +kernel⟩
theorem sc_L_headed:FnScope ["_law_thing", "_law_head", "_law_some", "_law_one"] ["_law_thing", "_law_head"] (z_h y_y):=⟨rfl,rfl,rfl,by decide +kernel,rfl,by decide +kernel,by decide +kernel⟩
theorem sc_L_same:FnScope ["_law_found", "_law_due"] ["_law_found", "_law_due"] (z_h s_L_same):=⟨rfl,rfl,rfl,by decide +kernel,rfl,by decide +kernel,by decide +kernel⟩
theorem sc_L_copies:FnScope ["_law_row", "_law_head"] ["_law_row", "_law_head"] (z_h y_x):=⟨rfl,rfl,rfl,by decide +kernel,rfl,by decide +kernel,by decide +kernel⟩
theorem sc_L_spread:FnScope ["_law_plan_here", "_law_part_here", "_law_head", "_law_rows_here", "_law_row", "_law_inner", "_law_driven", "_law_more", "_law_k"] ["_law_plan_here", "_law_part_here", "_law_head"] (z_h y_z):=⟨rfl,rfl,rfl,by decide +kernel,rfl,by decide +kernel,by decide +kernel⟩
theorem sc_law:FnScope ["_law_script", "_law_plan_here", "_law_due", "_law_handed", "_law_again", "_law_found", "_law_names", "_law_some"] ["_law_script"] (z_h s_law):=⟨rfl,rfl,rfl,by decide +kernel,rfl,by decide +kernel,by decide +kernel⟩
set_option genInjectivity false in
set_option genSizeOfSpec false in
structure Ad where
 a_sayings_in:Addr
 d_sayings_in:FuncData
 a_spread:Addr
 d_spread:FuncData
 a_brings_rows:Addr
 d_brings_rows:FuncData
 a_rows_of:Addr
 d_rows_of:FuncData
 a_rows_of_use:Addr
 d_rows_of_use:FuncData
 a_fronts_of:Addr
 d_fronts_of:FuncData
 a_renamed:Addr
 d_renamed:FuncData
 a_L_bag:Addr
 d_L_bag:FuncData
 a_L_take:Addr
 d_L_take:FuncData
 a_L_pool:Addr
 d_L_pool:FuncData
 a_L_rooms:Addr
 d_L_rooms:FuncData
 a_L_leaf:Addr
 d_L_leaf:FuncData
 a_L_wants:Addr
 d_L_wants:FuncData
 a_L_typed:Addr
 d_L_typed:FuncData
 a_L_count:Addr
 d_L_count:FuncData
 a_L_cost:Addr
 d_L_cost:FuncData
 a_L_use:Addr
 d_L_use:FuncData
 a_L_rows:Addr
 d_L_rows:FuncData
 a_L_part:Addr
 d_L_part:FuncData
 a_L_plan:Addr
 d_L_plan:FuncData
 a_L_headed:Addr
 d_L_headed:FuncData
 a_L_same:Addr
 d_L_same:FuncData
 a_L_copies:Addr
 d_L_copies:FuncData
 a_L_spread:Addr
 d_L_spread:FuncData
 a_law:Addr
 d_law:FuncData
 a_FORMS:Addr
structure Tx(w:World)(K:PySem.W.Frag)(mg:Str->Option Value)(A:Ad):Prop where
 abs:mg "abs" = none
 all:mg "all" = none
 any:mg "any" = none
 bool:mg "bool" = none
 dict:mg "dict" = none
 int:mg "int" = none
 isinstance:mg "isinstance" = none
 len:mg "len" = none
 list:mg "list" = none
 max:mg "max" = none
 min:mg "min" = none
 range:mg "range" = none
 set:mg "set" = none
 str:mg "str" = none
 sum:mg "sum" = none
 tuple:mg "tuple" = none
 zip:mg "zip" = none
 g_FORMS:mg "FORMS" = some (.ref A.a_FORMS)
 D_FORMS:∃ kvs,TopD w K A.a_FORMS kvs/\∀ z∈words,∃ p,kvs.lookup z=some (.ref p)/\∀ H,SqT K H p [.int (formN z),.int (formK z)]
 F_sayings_in:Fun K "sayings_in" "sayings_in" y_l A.a_sayings_in A.d_sayings_in
 B_sayings_in:Binds K A.d_sayings_in ["saying"] []
 M_sayings_in:mg "sayings_in" = some (.ref A.a_sayings_in)
 F_spread:Fun K "spread" "spread" s_spread A.a_spread A.d_spread
 B_spread:Binds K A.d_spread ["plan"] []
 M_spread:mg "spread" = some (.ref A.a_spread)
 F_brings_rows:Fun K "brings_rows" "brings_rows" y_i A.a_brings_rows A.d_brings_rows
 B_brings_rows:Binds K A.d_brings_rows ["part", "parts"] []
 M_brings_rows:mg "brings_rows" = some (.ref A.a_brings_rows)
 F_rows_of:Fun K "rows_of" "rows_of" x_m A.a_rows_of A.d_rows_of
 B_rows_of:Binds K A.d_rows_of ["part", "ahead", "parts"] []
 M_rows_of:mg "rows_of" = some (.ref A.a_rows_of)
 F_rows_of_use:Fun K "rows_of_use" "rows_of_use" y_j A.a_rows_of_use A.d_rows_of_use
 B_rows_of_use:Binds K A.d_rows_of_use ["row", "ahead", "parts"] []
 M_rows_of_use:mg "rows_of_use" = some (.ref A.a_rows_of_use)
 F_fronts_of:Fun K "fronts_of" "fronts_of" y_r A.a_fronts_of A.d_fronts_of
 B_fronts_of:Binds K A.d_fronts_of ["row", "ahead"] []
 M_fronts_of:mg "fronts_of" = some (.ref A.a_fronts_of)
 F_renamed:Fun K "renamed" "renamed" x_l A.a_renamed A.d_renamed
 B_renamed:Binds K A.d_renamed ["saying", "ahead"] []
 M_renamed:mg "renamed" = some (.ref A.a_renamed)
 F_L_bag:Fun K "_law_bag" "_law_bag" s_L_bag A.a_L_bag A.d_L_bag
 B_L_bag:Binds K A.d_L_bag ["_law_script", "_law_at"] []
 M_L_bag:mg "_law_bag" = some (.ref A.a_L_bag)
 F_L_take:Fun K "_law_take" "_law_take" s_L_take A.a_L_take A.d_L_take
 B_L_take:Binds K A.d_L_take ["_law_bag_here", "_law_many"] []
 M_L_take:mg "_law_take" = some (.ref A.a_L_take)
 F_L_pool:Fun K "_law_pool" "_law_pool" s_L_pool A.a_L_pool A.d_L_pool
 B_L_pool:Binds K A.d_L_pool ["_law_bag_here", "_law_many"] []
 M_L_pool:mg "_law_pool" = some (.ref A.a_L_pool)
 F_L_rooms:Fun K "_law_rooms" "_law_rooms" x_i A.a_L_rooms A.d_L_rooms
 B_L_rooms:Binds K A.d_L_rooms ["_law_bag_here", "_law_room", "_law_many"] []
 M_L_rooms:mg "_law_rooms" = some (.ref A.a_L_rooms)
 F_L_leaf:Fun K "_law_leaf" "_law_leaf" s_L_leaf A.a_L_leaf A.d_L_leaf
 B_L_leaf:Binds K A.d_L_leaf ["_law_bag_here", "_law_widths", "_law_width"] []
 M_L_leaf:mg "_law_leaf" = some (.ref A.a_L_leaf)
 F_L_wants:Fun K "_law_wants" "_law_wants" x_k A.a_L_wants A.d_L_wants
 B_L_wants:Binds K A.d_L_wants ["_law_bag_here", "_law_word", "_law_width"] []
 M_L_wants:mg "_law_wants" = some (.ref A.a_L_wants)
 F_L_typed:Fun K "_law_typed" "_law_typed" x_j A.a_L_typed A.d_L_typed
 B_L_typed:Binds K A.d_L_typed ["_law_bag_here", "_law_widths", "_law_width", "_law_deep", "_law_room"] []
 M_L_typed:mg "_law_typed" = some (.ref A.a_L_typed)
 F_L_count:Fun K "_law_count" "_law_count" x_h A.a_L_count A.d_L_count
 B_L_count:Binds K A.d_L_count ["_law_saying"] []
 M_L_count:mg "_law_count" = some (.ref A.a_L_count)
 F_L_cost:Fun K "_law_cost" "_law_cost" s_L_cost A.a_L_cost A.d_L_cost
 B_L_cost:Binds K A.d_L_cost ["_law_part_here", "_law_size", "_law_many", "_law_first"] []
 M_L_cost:mg "_law_cost" = some (.ref A.a_L_cost)
 F_L_use:Fun K "_law_use" "_law_use" s_L_use A.a_L_use A.d_L_use
 B_L_use:Binds K A.d_L_use ["_law_bag_here", "_law_part_here", "_law_size", "_law_names", "_law_widths", "_law_left"] []
 M_L_use:mg "_law_use" = some (.ref A.a_L_use)
 F_L_rows:Fun K "_law_rows" "_law_rows" s_L_rows A.a_L_rows A.d_L_rows
 B_L_rows:Binds K A.d_L_rows ["_law_bag_here", "_law_plan_here", "_law_sizes", "_law_names", "_law_widths", "_law_cap"] []
 M_L_rows:mg "_law_rows" = some (.ref A.a_L_rows)
 F_L_part:Fun K "_law_part" "_law_part" s_L_part A.a_L_part A.d_L_part
 B_L_part:Binds K A.d_L_part ["_law_bag_here", "_law_plan_here", "_law_sizes", "_law_name", "_law_cap"] []
 M_L_part:mg "_law_part" = some (.ref A.a_L_part)
 F_L_plan:Fun K "_law_plan" "_law_plan" s_L_plan A.a_L_plan A.d_L_plan
 B_L_plan:Binds K A.d_L_plan ["_law_bag_here"] []
 M_L_plan:mg "_law_plan" = some (.ref A.a_L_plan)
 F_L_headed:Fun K "_law_headed" "_law_headed" y_y A.a_L_headed A.d_L_headed
 B_L_headed:Binds K A.d_L_headed ["_law_thing", "_law_head"] []
 M_L_headed:mg "_law_headed" = some (.ref A.a_L_headed)
 F_L_same:Fun K "_law_same" "_law_same" s_L_same A.a_L_same A.d_L_same
 B_L_same:Binds K A.d_L_same ["_law_found", "_law_due"] []
 M_L_same:mg "_law_same" = some (.ref A.a_L_same)
 F_L_copies:Fun K "_law_copies" "_law_copies" y_x A.a_L_copies A.d_L_copies
 B_L_copies:Binds K A.d_L_copies ["_law_row", "_law_head"] []
 M_L_copies:mg "_law_copies" = some (.ref A.a_L_copies)
 F_L_spread:Fun K "_law_spread" "_law_spread" y_z A.a_L_spread A.d_L_spread
 B_L_spread:Binds K A.d_L_spread ["_law_plan_here", "_law_part_here", "_law_head"] []
 M_L_spread:mg "_law_spread" = some (.ref A.a_L_spread)
 F_law:Fun K "law" "law" s_law A.a_law A.d_law
 B_law:Binds K A.d_law ["_law_script"] []
 M_law:mg "law" = some (.ref A.a_law)
section
variable {P:Program} {w:World} {K:PySem.W.Frag} {mg:Str->Option Value} {base:Heap} {A:Ad}
seal L2.PE L2.PA L2.PT L2.PS L2.PSs
theorem ok_sayings_in(T:Tx w K mg A):FnOk P w K mg base CX0 1 A.a_sayings_in A.d_sayings_in ["saying"] sp_sayings_in:=by
 refine T.F_sayings_in.ok sc_sayings_in (fun vs H Q E h=>?_) (fun cdv A' outer s H vs Q E hr h=>?_)
 ·obtain ⟨z,hd,subs,v,rfl,hz,hk,hl2,hD,q⟩:=h
  rfl
 obtain ⟨z,hd,subs,v,rfl,hz,hk,hl2,hD,q⟩:=h
 obtain ⟨kvs,D_FORMS,hkvs⟩:=T.D_FORMS
 refine ⟨_,(z_i (z_z (pe_slice sl_tupE (pv 0) (po_some (z_l ix_tup (z_l (ix_top D_FORMS) (pe_glob (v:=.ref A.a_FORMS) rfl T.g_FORMS rfl) (z_l ix_tup (pv 0) z_e (fun _ _=>rfl)) (fun _ _=>rfl)) z_e (fun _ _=>rfl))) po_none))),?_⟩
 obtain ⟨p,xs,rfl,hp,hxs⟩:=hD.tupI
 obtain ⟨x0,r0,rfl,h0,hr0⟩:=hxs.consI
 have e0:x0 = .str z:=by unfold Dat at h0;exact h0
 subst e0
 obtain ⟨pf,hlk,hpf⟩:=hkvs z hz
 have hlen:=hr0.length
 rw [List.length_append] at hlen
 refine ⟨_,rfl,_,rfl,p,_,_,_,rfl,rfl,SqT.of hp,(show atI _ ((0:Nat):Int)=_ from y_c rfl),_,_,rfl,rfl,hlk,pf,_,_,_,rfl,rfl,hpf H,rfl,_,rfl,p,_,rfl,hp,fun p2 H2 s2 f2=>?_⟩
 have hcut:cutV (V.str z::r0) (some ((formK z:Nat):Int)) none=r0.drop hd.length:=by
  rw [cut_from (by rw [List.length_cons,hk];lia),hk]
  rfl
 rw [hcut] at f2
 refine q p2 _ H2 s2 f2 ?_
 have:=(hr0.same s2).drop hd.length
 rw [List.drop_left] at this
 exact this
theorem ok_brings_rows(T:Tx w K mg A):FnOk P w K mg base CX0 1 A.a_brings_rows A.d_brings_rows ["part", "parts"] sp_bringsG:=by
 refine T.F_brings_rows.ok sc_brings_rows (fun vs H Q E h=>?_) (fun cdv A' outer s H vs Q E hr h=>?_)
 ·obtain ⟨P,v,d,kvs,lk,rfl,hD,hd,hPr,hl,q⟩:=h
  rfl
 obtain ⟨P,v,d,kvs,lk,rfl,hD,hd,hPr,hl,q⟩:=h
 have hu:=hu_of hr
 refine ⟨_,(z_f (x_a (z_s op_gt (z_p y_f rfl T.len PySem.boot_len (z_a (z_l z_n (pv 0) z_e (fun _ _=>rfl)) z_d)) z_e (nomark _)) (z_i (z_z pe_bl)) y_a)
  (z_i (z_z (z_p call_any rfl T.any PyProof.Rows.boot_any (z_a (pe_comp [1] (fun _ _ h=>h) rfl (pi_tup0 (z_l z_n (pv 0) z_e (fun _ _=>rfl))) (fun _ _ _ _=>y_n) (fun _ _ _ _=>(pe_or (pe_cmpR op_in_seq0 (z_l z_n (pv 0) z_e (fun _ _=>rfl)) (y_d (z_a z_t (z_a z_t z_d))) rfl) (pe_one (pe_cmp (pc_din hu (z_l z_n (pv 0) (pe_un un_neg z_e) (fun _ _=>rfl)) (pv 1)))))) rfl (show ∀ j∈([1]:List Nat),j<2 by decide) (show (["row", "parts"]:List Str).Nodup by decide +kernel)) z_d))))),?_⟩
 obtain ⟨r,pd,po,pr,ds,os,rs,rfl,h1,h2,h3,h4,d1,d2,d3⟩:=x_c hD
 have l1:=d1.length
 have l3:=d3.length
 rw [List.length_map] at l1 l3
 unfold brB at q
 refine ⟨_,rfl,r,_,_,_,rfl,rfl,SqT.of h1,rfl,_,_,rfl,.inr ⟨_,SqT.of h2,rfl⟩,_,_,rfl,rfl,_,rfl,?_⟩
 by_cases c:0<P.ins.length
 ·refine ite_t (decide_eq_true (by lia)) ?_
  have:=q H (Same.refl _)
  rw [decide_eq_true c,Bool.true_or] at this
  exact this
 ·refine ite_f (decide_eq_false (by lia)) ?_
  rw [decide_eq_false c,Bool.false_or] at q
  refine ⟨_,rfl,r,_,_,_,rfl,rfl,SqT.of h1,rfl,pr,rfl,⟨_,SqT.of h4⟩,comp_tup (xs:=rs) (fun i ys H'=>Same H H'/\ys=((P.rows.take i).map fun r=>match r with | .use _ _ nm _ _=>(lk nm).isSome | _=>true).map V.bl) ⟨Same.refl _,rfl⟩ ?_ ?_ ?_ ?_⟩
  ·rintro i ys H' _ ⟨s',_⟩
   exact SqT.of (s' _ _ h4)
  ·rintro i ys H' hi ⟨_,rfl⟩
   rw [List.length_map,List.length_map,List.length_take]
   exact y_b (by lia)
  ·rintro i v ys H' hv ⟨s',rfl⟩
   obtain ⟨dr,hdr,hvd⟩:=d3.get hv
   rw [List.getElem?_map] at hdr
   obtain ⟨rw_,hrw,rfl⟩:=Option.map_eq_some_iff.mp hdr
   rw [z_y hrw,List.map_append,List.map_append]
   unfold tYes
   cases rw_ with
   | wire x w s =>
    obtain ⟨rr,sv,rfl,hr,hs⟩:=wire_at (hvd.same s')
    refine iteT ⟨_,rfl,rr,_,_,_,rfl,rfl,SqT.of hr,rfl,(by show 2<=sizeLine;decide),fun pt hpt=>?_⟩
    have t1:=z_c hpt (.tup [.str "wire",.str "box"])
    refine ⟨pt,_,rfl,.inr (SqT.of z_b),rfl,rfl,_,rfl,?_⟩
    exact ite_t (by decide) ⟨s'.trans t1,rfl⟩
   | box x w f s =>
    obtain ⟨rr,sv,rfl,hr,hs⟩:=box_at (hvd.same s')
    refine iteT ⟨_,rfl,rr,_,_,_,rfl,rfl,SqT.of hr,rfl,(by show 2<=sizeLine;decide),fun pt hpt=>?_⟩
    have t1:=z_c hpt (.tup [.str "wire",.str "box"])
    refine ⟨pt,_,rfl,.inr (SqT.of z_b),rfl,rfl,_,rfl,?_⟩
    exact ite_t (by decide) ⟨s'.trans t1,rfl⟩
   | use c lb nm ss os =>
    obtain ⟨rr,xs',ps,po,sv,rfl,hr,y0,_,y3,_⟩:=use_at (hvd.same s')
    refine iteT ⟨_,rfl,rr,_,_,_,rfl,rfl,SqT.of hr,y0,(by show 2<=sizeLine;decide),fun pt hpt=>?_⟩
    have t1:=z_c hpt (.tup [.str "wire",.str "box"])
    refine ⟨pt,_,rfl,.inr (SqT.of z_b),rfl,rfl,_,rfl,?_⟩
    refine ite_f (wd_nin c) ?_
    refine ⟨_,rfl,_,rfl,rr,_,_,_,rfl,rfl,SqT.of (t1 _ _ hr),y3,_,rfl,d,_,rfl,DGet.k (k:=.inr nm) ((s'.trans t1) _ _ hd),?_⟩
    refine ⟨s'.trans t1,?_⟩
    rcases hPr nm with ⟨e1,e2⟩ | ⟨qq,pp,e1,e2,_⟩
    ·rw [e2]
     show _=_++[V.bl (lk nm).isSome]
     rw [e1]
     rfl
    ·rw [e2]
     show _=_++[V.bl (lk nm).isSome]
     rw [e1]
     rfl
  rintro ys H' ⟨s',rfl⟩ pl hpl
  rw [<-l3,List.take_length]
  refine ⟨rfl,pl,_,rfl,SqL.of z_b,?_⟩
  rw [List.any_map]
  exact q _ (s'.trans (z_c hpl _))
theorem ok_fronts_of(T:Tx w K mg A):FnOk P w K mg base CX0 1 A.a_fronts_of A.d_fronts_of ["row", "ahead"] sp_fronts:=by
 refine T.F_fronts_of.ok sc_fronts_of (fun vs H Q E h=>?_) (fun cdv A' outer s H vs Q E hr h=>?_)
 ·obtain ⟨v,a,c,lb,nm,ss,os,rfl,hD,ha,hl,hc,q⟩:=h
  rfl
 obtain ⟨v,a,c,lb,nm,ss,os,rfl,hD,ha,hl,hc,q⟩:=h
 refine ⟨_,(z_f (z_r (i:=2) sc_fronts_of.nd rfl (Or.inr rfl) (z_o z_w (z_o z_w (pv 1) (z_l z_n (pv 0) (pe_un un_neg z_e) (fun _ _=>rfl))) z_t))
  (z_f (x_a (z_s op_eq (z_l z_n (pv 0) z_e (fun _ _=>rfl)) z_t (nomark _)) (z_i (z_z (y_h (z_a (pv 2) z_d)))) y_a)
  (z_i (z_z (pe_comp [2] (fun _ _ h=>h) rfl (y_o rfl T.range (z_a (z_l z_n (pv 0) z_e (fun _ _=>rfl)) z_d)) (fun _ _ _ _=>y_n) (fun _ _ _ _=>(z_o z_w (z_o z_w (pv 1) (y_g call_str_int rfl T.str PyProof.Rows.boot_str (z_a (pv 0) z_d))) z_t)) rfl (show ∀ j∈([2]:List Nat),j<3 by decide) (show (["copy", "front"]:List Str).Nodup by decide +kernel)))))),?_⟩
 obtain ⟨r,xs,ps,po,sv,rfl,hr',x0,x4,_,_,_,x1,_⟩:=use_at hD
 refine ⟨_,rfl,_,rfl,_,rfl,r,_,_,_,rfl,rfl,SqT.of hr',x4,_,_,rfl,rfl,small (by lia),_,_,rfl,rfl,small (by rw [Str.length_append];show _+_+1<=_;lia),?_⟩
 refine ⟨_,rfl,r,_,_,_,rfl,rfl,SqT.of hr',x0,rfl,_,rfl,?_⟩
 cases c with
 | none =>
  refine ite_t (by decide) ?_
  exact ⟨_,rfl,(by show 1<=sizeLine;decide),fun p hp=>q p _ hp (z_c hp _) z_b⟩
 | some n =>
  refine ite_f (show decide (V.str "times" = V.str "part")=false by decide) ?_
  have hn8:=hc n rfl
  refine ⟨_,rfl,r,_,_,_,rfl,rfl,SqT.of hr',x1 n rfl,_,rfl,by lia,by lia,?_⟩
  refine comp_range_map (fun k=>.str (a++lb ++ "." ++ digT k ++ ".")) (by lia) (fun k hk N hN=>?_) fun p hp=>?_
  ·have h2:=dig_len k (by lia)
   rw [Int.zero_add]
   refine ⟨_,rfl,_,rfl,_,rfl,Nat.lt_of_le_of_lt (Nat.log2_le_self k) (by lia),_,_,rfl,rfl,small ?_,_,_,rfl,rfl,small ?_,hN⟩
   ·show (a++lb ++ ".").length+(digT k).length<=_
    rw [h2,Str.length_append,Str.length_append]
    show _+_+1+1<=_
    lia
   ·show (a++lb ++ "." ++ digT k).length+1<=_
    rw [Str.length_append,h2,Str.length_append,Str.length_append]
    show _+_+1+1+1<=_
    lia
  ·refine q p _ hp (z_c hp _) ?_
   rw [z_b]
   show _=some (HO.lst (((List.range n).map fun k=>a++lb ++ "." ++ digT k ++ ".").map V.str))
   rw [List.map_map]
   rfl
theorem ok_renamed(T:Tx w K mg A)(G_sayings_in:FnOk P w K mg base CX0 1 A.a_sayings_in A.d_sayings_in ["saying"] sp_sayings_in)(n:Nat)(G_renamed:FnOk P w K mg base CX0 (n+2) A.a_renamed A.d_renamed ["saying", "ahead"] (sp_ren n)):FnOk P w K mg base CX0 (n+3) A.a_renamed A.d_renamed ["saying", "ahead"] (sp_ren (n+1)):=by
 refine T.F_renamed.ok sc_renamed (fun vs H Q E h=>?_) (fun cdv A' outer s H vs Q E hr h=>?_)
 ·obtain ⟨d,d',v,a,rfl,hD,hR,q⟩:=h
  rfl
 obtain ⟨d,d',v,a,rfl,hD,hR,q⟩:=h
 refine ⟨_,(z_f (x_a (z_s op_eq (z_l z_n (pv 0) z_e (fun _ _=>rfl)) z_t (nomark _)) (z_i (z_z (y_d (z_a z_t (z_a (z_o z_w (pv 1) (z_l z_n (pv 0) z_e (fun _ _=>rfl))) z_d))))) y_a)
  (z_f (z_r (i:=2) sc_renamed.nd rfl (Or.inl rfl) (z_k G_sayings_in (hr.mono (by first | decide | lia)) rfl T.M_sayings_in T.F_sayings_in.kp T.B_sayings_in .nil pass0 (z_a (pv 0) z_d)))
  (z_i (z_z (z_o op_catE (pe_slice sl_tupE (pv 0) po_none (po_some (z_o op_sub (z_p y_f rfl T.len PySem.boot_len (z_a (pv 0) z_d)) (z_p y_f rfl T.len PySem.boot_len (z_a (pv 2) z_d))))) (y_g y_w rfl T.tuple PyProof.Rows.boot_tuple (z_a (pe_comp [1] (fun _ _ h=>h) rfl (pi_tup0 (pv 2)) (fun _ _ _ _=>y_n) (fun _ _ _ _=>(z_k G_renamed (hr.mono (by first | decide | lia)) rfl T.M_renamed T.F_renamed.kp T.B_renamed .nil pass0 (z_a (pv 0) (z_a (pv 1) z_d)))) rfl (show ∀ j∈([1]:List Nat),j<3 by decide) (show (["piece", "ahead"]:List Str).Nodup by decide +kernel)) z_d))))))),?_⟩
 rcases hR with ⟨x,rfl,rfl,hl⟩ | ⟨z,hd,subs,subs',hz,hw,hk,hl2,hs3,rfl,rfl,hp⟩
 ·obtain ⟨p,xs,rfl,hp,hxs⟩:=hD.tupI
  obtain ⟨x0,r0,rfl,h0,hr0⟩:=hxs.consI
  obtain ⟨x1,r1,rfl,h1,hr1⟩:=hr0.consI
  have f0:x0 = .str "wire" := by unfold Dat at h0;exact h0
  have f1:x1 = .str x:=by unfold Dat at h1;exact h1
  subst f0 f1
  refine ⟨_,rfl,p,_,_,_,rfl,rfl,SqT.of hp,(show atI _ ((0:Nat):Int)=_ from y_c rfl),rfl,_,rfl,?_⟩
  refine ite_t (by decide) ?_
  refine ⟨_,rfl,_,rfl,p,_,_,_,rfl,rfl,SqT.of hp,(show atI _ ((1:Nat):Int)=_ from y_c rfl),_,_,rfl,rfl,small (by rw [<-Str.length_append];exact hl),(by show 2<=sizeLine;decide),fun t ht=>?_⟩
  exact q _ _ (z_c ht _) (Dat.tup z_b (.cons (Dat.str _) (.cons (Dat.str _) .nil)))
 ·have hD0:=hD
  obtain ⟨p,xs,rfl,hpz,hxs⟩:=hD.tupI
  obtain ⟨x0,r0,rfl,h0,hr0⟩:=hxs.consI
  have e0:x0 = .str z:=by unfold Dat at h0;exact h0
  subst e0
  have hlen:=hr0.length
  rw [List.length_append] at hlen
  refine ⟨_,rfl,p,_,_,_,rfl,rfl,SqT.of hpz,(show atI _ ((0:Nat):Int)=_ from y_c rfl),rfl,_,rfl,?_⟩
  refine ite_f (decide_eq_false fun h=>hw (by injection h)) ?_
  refine ⟨_,rfl,z,hd,subs,_,rfl,hz,hk,hl2,hD0,fun pt ys H1 s1 hpt hys=>?_⟩
  have hyl:=hys.length
  have hcut:cutV (V.str z::r0) none (some ((((V.str z::r0).length:Nat):Int)-((ys.length:Nat):Int)))=V.str z::r0.take hd.length:=by
   rw [show ((((V.str z::r0).length:Nat):Int)-((ys.length:Nat):Int))=((hd.length+1:Nat):Int) by rw [List.length_cons];lia,cut_to (by rw [List.length_cons];lia)]
   rfl
  refine ⟨_,rfl,_,rfl,_,_,rfl,.inr ⟨_,SqT.of (s1 _ _ hpz),rfl⟩,_,rfl,_,_,rfl,.inr ⟨_,SqT.of hpt,rfl⟩,_,_,rfl,rfl,?_⟩
  refine ⟨_,rfl,p,_,rfl,s1 _ _ hpz,fun pc H2 s2 f2=>?_⟩
  rw [hcut] at f2
  have s12:=s1.trans s2
  refine ⟨_,rfl,pt,rfl,⟨_,SqT.of (s2 _ _ hpt)⟩,comp_tup (xs:=ys) (fun i zs H'=>Same H2 H'/\zs.length=i/\Dats H' (subs'.take i) zs) ⟨Same.refl _,rfl,.nil⟩ ?_ ?_ ?_ ?_⟩
  ·rintro i zs H' _ ⟨s',_⟩
   exact SqT.of (s' _ _ (s2 _ _ hpt))
  ·rintro i zs H' hi ⟨_,hzl,_⟩
   exact y_b (by lia)
  ·rintro i y zs H' hy ⟨s',hzl,hzd⟩
   obtain ⟨sd,hsd,hyd⟩:=hys.get hy
   obtain ⟨sd',hsd',hRn⟩:=pairedGet hp hsd
   unfold tYes
   refine iteT ⟨_,rfl,_,rfl,sd,sd',y,a,rfl,hyd.same (s2.trans s'),hRn,fun v' H3 s3 hv'=>?_⟩
   refine ⟨s'.trans s3,by rw [List.length_append,hzl];rfl,?_⟩
   rw [z_y hsd']
   exact (hzd.same s3).append (.cons hv' .nil)
  rintro zs H3 ⟨s3,hzl,hzd⟩ pl hpl
  rw [<-hyl,Paired.length hp,List.take_length] at hzd
  have s4:=z_c hpl (.lst zs)
  refine ⟨pl,_,rfl,.inl ⟨SqL.of z_b,fun pu hpu=>?_⟩⟩
  have s5:=z_c hpu (.tup zs)
  have s35:=s3.trans (s4.trans s5)
  refine ⟨pc,pu,_,_,rfl,rfl,s35 _ _ f2,z_b,small (by rw [List.length_cons,List.length_take];lia),fun pz H6 s6 f6=>?_⟩
  refine q _ _ (s12.trans (s35.trans s6)) (Dat.tup f6 (.cons (Dat.str _) ?_))
  have e1:Dats H hd (r0.take hd.length):=by
   have:=hr0.take hd.length
   rw [List.take_left] at this
   exact this
  exact (e1.same (s12.trans (s35.trans s6))).append (hzd.same (s4.trans (s5.trans s6)))
theorem ok_rows_of_use(T:Tx w K mg A)(G_renamed:FnOk P w K mg base CX0 9 A.a_renamed A.d_renamed ["saying", "ahead"] (sp_ren 6))(G_fronts_of:FnOk P w K mg base CX0 1 A.a_fronts_of A.d_fronts_of ["row", "ahead"] sp_fronts)(n:Nat)(G_rows_of:FnOk P w K mg base CX0 (2*n+10) A.a_rows_of A.d_rows_of ["part", "ahead", "parts"] (sp_rowsG n)):FnOk P w K mg base CX0 (2*n+11) A.a_rows_of_use A.d_rows_of_use ["row", "ahead", "parts"] (sp_useG n):=by
 refine T.F_rows_of_use.ok sc_rows_of_use (fun vs H Q E h=>?_) (fun cdv A' outer s H vs Q E hr h=>?_)
 ·obtain ⟨v,a,c,lb,nm,ss,os,qt,d,kvs,lk,rfl,hD,hd,hPr,hlk,hR,ha,hLen,q⟩:=h
  rfl
 obtain ⟨v,a,c,lb,nm,ss,os,qt,d,kvs,lk,rfl,hD,hd,hPr,hlk,hR,ha,hLen,q⟩:=h
 have hu:=hu_of hr
 refine ⟨_,(z_f (z_r (i:=3) sc_rows_of_use.nd rfl (Or.inl rfl) (pe_dget hu (pv 2) (z_l ix_tup (pv 0) (pe_un un_neg z_e) (fun _ _=>rfl)) (fun _ _=>rfl)))
  (z_f (z_r (i:=4) sc_rows_of_use.nd rfl (Or.inl rfl) (y_h z_d))
  (z_f (ps_comp [1] sc_rows_of_use.nd (i:=5) rfl (Or.inl rfl) (fun _ _ h=>h) rfl (pi_tup (z_l ix_tup (pv 0) (pe_un un_neg z_e) (fun _ _=>rfl))) (fun _ _ _ _=>y_n) (fun _ _ _ _=>(z_k G_renamed (hr.mono (by first | decide | lia)) rfl T.M_renamed T.F_renamed.kp T.B_renamed .nil pass0 (z_a (pv 0) (z_a (pv 1) z_d)))) rfl (show ∀ j∈([1]:List Nat),j<10 by decide) (show (["saying", "ahead"]:List Str).Nodup by decide +kernel) (by with_unfolding_all rfl))
  (z_f (x_e PassesOwn.never rfl (pi_list (z_k G_fronts_of (hr.mono (by first | decide | lia)) rfl T.M_fronts_of T.F_fronts_of.kp T.B_fronts_of .nil pass0 (z_a (pv 0) (z_a (pv 1) z_d)))) (z_v (i:=6) sc_rows_of_use.nd rfl (Or.inr rfl))
    (z_f (x_e PassesOwn.never rfl (pi_zipm rfl T.zip (z_a (z_l ix_tup (pv 3) z_e (fun _ _=>rfl)) (z_a (pv 5) z_d))) (pg_tup rfl (y_e (z_v (i:=7) sc_rows_of_use.nd rfl (Or.inl rfl)) (y_e (z_v (i:=8) sc_rows_of_use.nd rfl (Or.inl rfl)) pgs_nil)))
    (z_i (x_b (pe_bm PySem.F.plainAttrs_list PySem.F.slot_list_append PySem.F.type_list_append y_u (pv 4) (z_a (y_d (z_a z_t (z_a (z_o z_w (pv 6) (z_l ix_tup (pv 7) z_e (fun _ _=>rfl))) (z_a (z_l ix_tup (pv 7) z_e (fun _ _=>rfl)) (z_a (pv 8) z_d))))) z_d)))))
  (z_f (x_b (pe_bm PySem.F.plainAttrs_list PySem.F.slot_list_extend PySem.F.type_list_extend mt_extend (pv 4) (z_a (z_k G_rows_of (hr.mono (by first | decide | lia)) rfl T.M_rows_of T.F_rows_of.kp T.B_rows_of .nil pass0 (z_a (pv 3) (z_a (pv 6) (z_a (pv 2) z_d)))) z_d)))
  (z_i (ps_comp [6] sc_rows_of_use.nd (i:=5) rfl (Or.inl rfl) (fun _ _ h=>h) rfl (pi_tup (z_l ix_tup (pv 3) z_e (fun _ _=>rfl))) (fun _ _ _ _=>y_n) (fun _ _ _ _=>(y_d (z_a z_t (z_a (z_o z_w (pv 1) (z_l (ix_tupK (K:=K) rfl) (pv 0) z_e (fun _ _=>rfl))) z_d)))) rfl (show ∀ j∈([6]:List Nat),j<10 by decide) (show (["port", "front"]:List Str).Nodup by decide +kernel) (by with_unfolding_all rfl))))))
  (z_f (x_e PassesOwn.never rfl (pi_zip3 rfl T.zip (z_a (z_l ix_tup (pv 0) (pe_un un_neg z_e) (fun _ _=>rfl)) (z_a (z_l ix_tup (pv 3) z_e (fun _ _=>rfl)) (z_a (pv 5) z_d)))) (pg_tup rfl (y_e (z_v (i:=9) sc_rows_of_use.nd rfl (Or.inl rfl)) (y_e (z_v (i:=7) sc_rows_of_use.nd rfl (Or.inl rfl)) (y_e (z_v (i:=8) sc_rows_of_use.nd rfl (Or.inl rfl)) pgs_nil))))
    (z_i (x_b (pe_bm PySem.F.plainAttrs_list PySem.F.slot_list_append PySem.F.type_list_append y_u (pv 4) (z_a (y_d (z_a z_t (z_a (z_o z_w (pv 1) (pv 9)) (z_a (z_l ix_tup (pv 7) z_e (fun _ _=>rfl)) (z_a (pv 8) z_d))))) z_d)))))
  (z_i (z_z (pv 4)))))))),?_⟩
 obtain ⟨r,xs0,ps,po,sv,rfl,hr',_,_,x3,x2,x1,_,hps,hpo,hsv⟩:=use_at hD
 obtain ⟨hlb,hss,hos,hc8,hq⟩:=hR
 obtain ⟨e1,e2,hcq,hPOk⟩:=hq qt hlk
 obtain ⟨pp,ev,hDq⟩:∃ pp,valV kvs (.inr nm)=some (.ref pp)/\Dat H qt.dat (.ref pp):=by
  rcases hPr nm with ⟨z,_⟩ | ⟨q',pp,z1,z2,z3⟩
  ·rw [hlk] at z;cases z
  ·rw [hlk] at z1;cases z1;exact ⟨pp,z2,z3⟩
 obtain ⟨rq,qd,qo,qr,ds,outv,rs,erq,h1,h2,h3,h4,d1,d2,d3⟩:=x_c hDq
 cases erq
 have lsv:=hsv.length
 have lds:=d1.length
 have lov:=d2.length
 rw [List.length_map] at lds lov
 have bnd:qt.ins.length<=100/\qt.outs.length<=100/\(∀ x∈qt.ins,x.1.length<=100)/\∀ x∈qt.outs,x.1.length<=100:=by
  cases n with
  | zero=>exact hPOk.elim
  | succ n=>exact ⟨hPOk.2.2.2.1,hPOk.2.2.2.2.1,hPOk.2.1,hPOk.2.2.1⟩
 obtain ⟨b1,b2,b3,b4⟩:=bnd
 have flen:=frnt_len (a:=a) (lb:=lb) hc8
 have fpos:=frnt_pos (a:=a) (lb:=lb) fun m e=>(hcq m e).1
 obtain ⟨s',hs'⟩:∃ s',s'=ss.map (renF a 6):=⟨_,rfl⟩
 rw [<-hs'] at q hLen
 have ls':s'.length=ss.length:=by rw [hs',List.length_map]
 have sll:=fun (i:Nat)=>lastS_len (a:=a) (lb:=lb) (c:=c) (ss:=s') (q:=qt) (by lia) (fun m e=>(hcq m e).2) (i:=i)
 have nS:∀ s∈s',noL s=true:=fun s hs=>by
  rw [hs'] at hs
  obtain ⟨u,hu,rfl⟩:=List.mem_map.mp hs
  exact noL_ren (hss u hu)
 have hPf:∀ f∈frnt a lb c,POk lk n qt f.length:=fun f hf=>hPOk.le (by have:=flen f hf;lia)
 unfold useF at q hLen
 generalize hfs:frnt a lb c=fs at q hLen flen fpos sll hPf
 have nR:∀ f∈fs,∀ r∈rowsF lk n qt f,noL r.dat=true:=fun f hf=>rows_noL (a:=f) (hPf f hf)
 have nC:∀ i,∀ r∈copF (rowsF lk n) qt (fs.take i) s',noL r.dat=true:=fun i=>copF_noL nS fun f hf=>nR f (List.mem_of_mem_take hf)
 have cle:=copF_le (rowsF lk n) qt fs s'
 obtain ⟨R3,hR3⟩:∃ R3,R3=(os.zip (qt.outs.zip (lastS qt fs s'))).map (fun p=>Rw.wire (a++p.1) p.2.1.2 p.2.2):=⟨_,rfl⟩
 rw [<-hR3] at q hLen
 rw [List.length_append] at hLen
 have lsE:=lastS_end (q:=qt) (ss:=s') fpos
 have l3:R3.length=qt.outs.length:=by rw [hR3,List.length_map,zip_len (by rw [zip_len (by lia)];lia)];exact e2
 have n3:∀ r∈R3,noL r.dat=true:=fun r hr=>by
  rw [hR3] at hr
  obtain ⟨p,hp,rfl⟩:=List.mem_map.mp hr
  exact x_o (lastS_noL nS _ (List.of_mem_zip (List.of_mem_zip hp).2).2)
 refine ⟨_,rfl,_,rfl,_,rfl,r,_,_,_,rfl,rfl,SqT.of hr',x3,d,_,rfl,dget hd ev,?_⟩
 refine ⟨(by show 0<=sizeLine;decide),fun p hp=>?_⟩
 have t1:=z_c hp (.lst [])
 have fp1:=z_b (H:=H) (a:=p) (o:=.lst [])
 dsimp only [gName]
 generalize upd H p (.lst [])=H1 at t1 fp1 ⊢
 refine ⟨_,rfl,_,rfl,r,_,_,_,rfl,rfl,SqT.of (t1 _ _ hr'),x2,ps,rfl,⟨_,SqT.of (t1 _ _ hps)⟩,comp_tup (xs:=sv) (fun i zs H'=>Same H1 H'/\zs.length=i/\Dats H' (s'.take i) zs) ⟨Same.refl _,rfl,.nil⟩ ?_ ?_ ?_ ?_⟩
 ·rintro i zs H' _ ⟨u,_⟩
  exact SqT.of (u _ _ (t1 _ _ hps))
 ·rintro i zs H' hi ⟨_,hzl,_⟩
  exact y_b (by lia)
 ·rintro i y zs H' hy ⟨u,hzl,hzd⟩
  obtain ⟨sd,hsd,hyd⟩:=hsv.get hy
  have hsd':s'[i]? = some (renF a 6 sd):=by rw [hs',List.getElem?_map,hsd];rfl
  unfold tYes
  refine iteT ⟨_,rfl,_,rfl,sd,renF a 6 sd,y,a,rfl,hyd.same (t1.trans u),SayD.ren (by lia) (hss sd (List.mem_of_getElem? hsd)),fun v' H3 u3 hv'=>?_⟩
  refine ⟨u.trans u3,by rw [List.length_append,hzl];rfl,?_⟩
  rw [z_y hsd']
  exact (hzd.same u3).append (.cons hv' .nil)
 rintro zs H2 ⟨u2,hzl,hzd⟩ px hpx
 rw [List.take_of_length_le (by lia)] at hzd
 have t3:=u2.trans (z_c hpx (.lst zs))
 have fx:=z_b (H:=H2) (a:=px) (o:=.lst zs)
 have hzd3:=hzd.same (z_c hpx (.lst zs))
 have npx:px≠p:=(z_g (u2 _ _ fp1) hpx).symm
 have hpxH:H px=none:=(t1.trans u2).free hpx
 dsimp only [gName]
 generalize upd H2 px (.lst zs)=H3 at t3 fx hzd3 ⊢
 have T3:=t1.trans t3
 have fp3:=t3 _ _ fp1
 refine ⟨_,rfl,_,rfl,.ref r,a,c,lb,nm,ss,os,rfl,hD.same T3,ha,hlb,hc8,fun pf H4 hpf t4 g4=>?_⟩
 rw [hfs] at g4
 have npf:pf≠p:=(z_g fp3 hpf).symm
 refine ⟨pf,rfl,⟨_,SqL.of g4⟩,for_list (xs:=fs.map V.str) (fun i σ H'=>∃ (x6 x7 x8:Option V) (px:Addr) (ys zs:List V),σ=[some (.ref r),some (.str a),some (.ref d),some (.ref pp),some (.ref p),some (.ref px),x6,x7,x8,none]/\Same H H'/\H' pf=some (.lst (fs.map V.str))/\H' p=some (.lst zs)/\H' px=some (.lst ys)/\px≠p/\Dats H' ((copF (rowsF lk n) qt (fs.take i) s').map Rw.dat) zs/\Dats H' (lastS qt (fs.take i) s') ys) ⟨_,_,_,px,zs,[],rfl,T3.trans t4,g4,t4 _ _ fp3,t4 _ _ fx,npx,.nil,hzd3.same t4⟩ ?_ ?_ ?_⟩
 ·rintro i σ H' _ ⟨_,_,_,_,_,_,rfl,_,h,_⟩
  exact SqL.of h
 ·rintro i v σ H' hv ⟨x6,x7,x8,px,ys,zs,rfl,S',ff,fp,fx,npx,hzC,hys⟩
  have hi:i<fs.length:=by have:=(List.getElem?_eq_some_iff.mp hv).1;rwa [List.length_map] at this
  rw [List.getElem?_map] at hv
  obtain ⟨f,hf,rfl⟩:=Option.map_eq_some_iff.mp hv
  have hfm:=List.mem_of_getElem? hf
  have flf:=flen f hfm
  have lys:=hys.length
  have lzC:=hzC.length
  rw [List.length_map] at lzC
  have cl1:=cle (i+1)
  rw [z_y hf,copF_snoc,List.length_append,List.length_append] at cl1
  have nL:∀ s∈lastS qt (fs.take i) s',noL s=true:=lastS_noL nS
  have nCi:=nC i
  have sli:=sll i hi
  have eC:copF (rowsF lk n) qt (fs.take (i+1)) s'=copF (rowsF lk n) qt (fs.take i) s'++(inW qt f (lastS qt (fs.take i) s')++rowsF lk n qt f):=by rw [z_y hf,copF_snoc]
  have eS:lastS qt (fs.take (i+1)) s'=otW qt f:=by rw [z_y hf,lastS_snoc]
  have n2:=nR f hfm
  generalize copF (rowsF lk n) qt (fs.take i) s'=C0 at hzC lzC cl1 nCi eC
  generalize lastS qt (fs.take i) s'=S0 at hys lys cl1 nL sli eC
  obtain ⟨R1,hR1⟩:∃ R1,R1=inW qt f S0:=⟨_,rfl⟩
  have n1:∀ r∈R1,noL r.dat=true:=by rw [hR1];exact inW_noL nL
  have l1:R1.length=qt.ins.length:=by rw [hR1];unfold inW;rw [List.length_map,zip_len (by lia)]
  rw [<-hR1] at cl1 eC
  refine ⟨_,rfl,pp,_,_,_,rfl,rfl,SqT.of (S' _ _ h1),rfl,_,rfl,qd,px,rfl,⟨_,SqT.of (S' _ _ h2)⟩,⟨_,SqL.of fx⟩,for_zipm (xs:=ds) (ys:=ys) (fun j σ J=>∃ (x7 x8:Option V) (zs':List V),σ=[some (.ref r),some (.str a),some (.ref d),some (.ref pp),some (.ref p),some (.ref px),some (.str f),x7,x8,none]/\Same H J/\J pf=some (.lst (fs.map V.str))/\J p=some (.lst zs')/\J px=some (.lst ys)/\Dats J S0 ys/\zs'.length=zs.length+j/\Dats J ((C0++R1.take j).map Rw.dat) zs') ⟨_,_,zs,rfl,S',ff,fp,fx,hys,rfl,by rw [List.take_zero,List.append_nil];exact hzC⟩ ?_ (by lia) ?_ ?_⟩
  ·rintro j σ J ⟨_,_,_,rfl,S2,_,_,z,_⟩
   exact ⟨SqT.of (S2 _ _ h2),SqL.of z⟩
  ·rintro j x y pq σ J hx hy ⟨x7,x8,zs',rfl,S2,ff2,fp2,fx2,hys2,hzl2,hzd2⟩ hpq
   obtain ⟨dd,hdd,hxd⟩:=d1.get hx
   rw [List.getElem?_map] at hdd
   obtain ⟨dr,hdr,rfl⟩:=Option.map_eq_some_iff.mp hdd
   obtain ⟨sd,hsd,hyd⟩:=hys2.get hy
   obtain ⟨ra,rfl,hra⟩:=door_atG (hxd.same S2)
   have hdl:=b3 dr (List.mem_of_getElem? hdr)
   have hj:j<qt.ins.length:=(List.getElem?_eq_some_iff.mp hdr).1
   have hR1j:R1[j]? = some (Rw.wire (f++dr.1) dr.2 sd):=by rw [hR1];unfold inW;rw [List.getElem?_map,zip_get hdr hsd];rfl
   have v1:=z_c hpq (.tup [.ref ra,y])
   have w1:=z_b (H:=J) (a:=pq) (o:=.tup [.ref ra,y])
   generalize upd J pq (.tup [.ref ra,y])=J1 at v1 w1 ⊢
   refine ⟨pq,_,rfl,SqT.of w1,rfl,_,_,rfl,_,_,rfl,rfl,?_⟩
   refine ⟨_,rfl,.inl ⟨rfl,_,SqL.of (v1 _ _ fp2)⟩,_,rfl,_,rfl,ra,_,_,_,rfl,rfl,SqT.of (v1 _ _ hra),rfl,_,_,rfl,rfl,small (by lia),_,rfl,ra,_,_,_,rfl,rfl,SqT.of (v1 _ _ hra),rfl,_,rfl,(by show 4<=sizeLine;decide),fun pz hpz=>?_⟩
   have v2:=z_c hpz (.tup [.str "wire",.str (f++dr.1),.int dr.2,y])
   have w2:=z_b (H:=J1) (a:=pz) (o:=.tup [.str "wire",.str (f++dr.1),.int dr.2,y])
   generalize upd J1 pz (.tup [.str "wire",.str (f++dr.1),.int dr.2,y])=J2 at v2 w2 ⊢
   have v12:=v1.trans v2
   have fp4:=v12 _ _ fp2
   refine ⟨p,_,_,rfl,rfl,fp4,y_b (by lia),?_⟩
   have keep:KeepT J2 (upd J2 p (.lst (zs'++[.ref pz]))):=KeepT.lst fp4 _
   refine ⟨_,_,zs'++[.ref pz],rfl,x_u (S2.trans v12) hp _,by rw [z_j npf];exact v12 _ _ ff2,z_b,by rw [z_j npx];exact v12 _ _ fx2,Dats.keepT keep (z_u nL) (hys2.same v12),by rw [List.length_append,hzl2];rfl,?_⟩
   rw [z_y hR1j,<-List.append_assoc,List.map_append]
   refine Dats.append (Dats.keepT keep (z_u fun d hd=>?_) (hzd2.same v12)) (.cons (Dat.keepT keep (x_o (nL sd (List.mem_of_getElem? hsd))) (Dat.tup w2 (.cons (Dat.str _) (.cons (Dat.str _) (.cons (Dat.int _) (.cons (hyd.same v12) .nil)))))) .nil)
   obtain ⟨k',hk',rfl⟩:=List.mem_map.mp hd
   rcases List.mem_append.mp hk' with z | z
   ·exact nCi k' z
   ·exact n1 k' (List.mem_of_mem_take z)
  rintro σ J ⟨x7',x8',zs',rfl,S2,ff2,fp2,fx2,hys2,hzl2,hzd2⟩
  rw [List.take_of_length_le (by lia)] at hzd2
  refine ⟨_,rfl,.inl ⟨rfl,_,SqL.of fp2⟩,_,rfl,_,rfl,_,rfl,qt,.ref pp,f,d,kvs,lk,rfl,hDq.same S2,S2 _ _ hd,hPr.same S2,hPf f hfm,by lia,fun p2 x2 J2 hp2 v2 g2 hx2=>?_⟩
  have lx2:=hx2.length
  rw [List.length_map] at lx2
  have fp3':=v2 _ _ fp2
  refine ⟨p,p2,_,_,rfl,rfl,fp3',g2,small (by lia),?_⟩
  have keep:KeepT J2 (upd J2 p (.lst (zs'++x2))):=KeepT.lst fp3' _
  have S3:Same H (upd J2 p (.lst (zs'++x2))):=x_u (S2.trans v2) hp _
  have ff3:(upd J2 p (.lst (zs'++x2))) pf=some (.lst (fs.map V.str)):=by rw [z_j npf];exact v2 _ _ ff2
  have fp5:=z_b (H:=J2) (a:=p) (o:=.lst (zs'++x2))
  have hD5:Dats (upd J2 p (.lst (zs'++x2))) ((C0++R1++rowsF lk n qt f).map Rw.dat) (zs'++x2):=by
   rw [List.map_append]
   refine Dats.append (Dats.keepT keep (z_u fun d hd=>?_) (hzd2.same v2)) (Dats.keepT keep (z_u fun d hd=>?_) hx2)
   ·obtain ⟨k',hk',rfl⟩:=List.mem_map.mp hd
    rcases List.mem_append.mp hk' with z | z
    ·exact nCi k' z
    ·exact n1 k' z
   ·obtain ⟨k',hk',rfl⟩:=List.mem_map.mp hd
    exact n2 k' hk'
  dsimp only [gName]
  generalize upd J2 p (.lst (zs'++x2))=J3 at S3 ff3 fp5 hD5 ⊢
  refine ⟨_,rfl,pp,_,_,_,rfl,rfl,SqT.of (S3 _ _ h1),rfl,qo,rfl,⟨_,SqT.of (S3 _ _ h3)⟩,comp_tup (xs:=outv) (fun j ws J=>Same J3 J/\ws.length=j/\Dats J ((qt.outs.take j).map fun o=>wireD (f++o.1)) ws) ⟨Same.refl _,rfl,.nil⟩ ?_ ?_ ?_ ?_⟩
  ·rintro j ws J' _ ⟨u,_⟩
   exact SqT.of (u _ _ (S3 _ _ h3))
  ·rintro j ws J' hj ⟨_,hwl,_⟩
   exact y_b (by lia)
  ·rintro j x ws J' hx ⟨u,hwl,hwd⟩
   obtain ⟨dd,hdd,hxd⟩:=d2.get hx
   rw [List.getElem?_map] at hdd
   obtain ⟨dr,hdr,rfl⟩:=Option.map_eq_some_iff.mp hdd
   obtain ⟨ra,rfl,hra⟩:=door_atG (hxd.same (S3.trans u))
   have hdl:=b4 dr (List.mem_of_getElem? hdr)
   unfold tYes
   refine iteT ⟨_,rfl,_,rfl,ra,_,_,_,rfl,rfl,SqT.of hra,rfl,_,_,rfl,rfl,small (by lia),(by show 2<=sizeLine;decide),fun u1 hu1=>?_⟩
   have u2:=z_c hu1 (.tup [.str "wire",.str (f++dr.1)])
   refine ⟨u.trans u2,by rw [List.length_append,hwl];rfl,?_⟩
   rw [z_y hdr,List.map_append]
   exact (hwd.same u2).append (.cons (Dat.tup z_b (.cons (Dat.str _) (.cons (Dat.str _) .nil))) .nil)
  rintro ws J4 ⟨u4,hwl,hwd⟩ py hpy
  rw [<-lov,List.take_length] at hwd
  have u5:=u4.trans (z_c hpy (.lst ws))
  refine ⟨_,_,_,py,ws,_,rfl,S3.trans u5,u5 _ _ ff3,u5 _ _ fp5,z_b,(z_g (u4 _ _ fp5) hpy).symm,?_,by rw [eS];exact hwd.same (z_c hpy (.lst ws))⟩
  rw [eC,<-List.append_assoc]
  exact hD5.same u5
 rintro σ H5 ⟨x6,x7,x8,py,ys,zs,rfl,S5,ff5,fp5,fy5,npy,hD5,hys⟩
 rw [List.length_map,List.take_length] at hD5 hys
 have lys:=hys.length
 have lz5:=hD5.length
 rw [List.length_map] at lz5
 have nC5:∀ r∈copF (rowsF lk n) qt fs s',noL r.dat=true:=copF_noL nS nR
 have nL5:∀ s∈lastS qt fs s',noL s=true:=lastS_noL nS
 generalize copF (rowsF lk n) qt fs s'=C5 at q hLen hD5 lz5 nC5
 refine ⟨_,rfl,_,rfl,r,_,_,_,rfl,rfl,SqT.of (S5 _ _ hr'),x1,_,rfl,pp,_,_,_,rfl,rfl,SqT.of (S5 _ _ h1),rfl,_,rfl,po,qo,py,rfl,⟨_,SqT.of (S5 _ _ hpo)⟩,⟨_,SqT.of (S5 _ _ h3)⟩,⟨_,SqL.of fy5⟩,for_zip3 (xs:=os.map V.str) (ys:=outv) (us:=ys) (fun j σ J=>∃ (x7 x8 x9:Option V) (zs':List V),σ=[some (.ref r),some (.str a),some (.ref d),some (.ref pp),some (.ref p),some (.ref py),x6,x7,x8,x9]/\Same H J/\J p=some (.lst zs')/\J py=some (.lst ys)/\Dats J (lastS qt fs s') ys/\zs'.length=zs.length+j/\Dats J ((C5++R3.take j).map Rw.dat) zs') ⟨_,_,_,zs,rfl,S5,fp5,fy5,hys,rfl,by rw [List.take_zero,List.append_nil];exact hD5⟩ ?_ (by rw [List.length_map];lia) (by rw [List.length_map];lia) ?_ ?_⟩
 ·rintro j σ J ⟨_,_,_,_,rfl,S2,_,z,_⟩
  exact ⟨SqT.of (S2 _ _ hpo),SqT.of (S2 _ _ h3),SqL.of z⟩
 ·rintro j x y u pq σ J hx hy hu ⟨x7',x8',x9,zs',rfl,S2,fp2,fx2,hys2,hzl2,hzd2⟩ hpq
  rw [List.getElem?_map] at hx
  obtain ⟨nmo,hnmo,rfl⟩:=Option.map_eq_some_iff.mp hx
  obtain ⟨dd,hdd,hyd⟩:=d2.get hy
  rw [List.getElem?_map] at hdd
  obtain ⟨dr,hdr,rfl⟩:=Option.map_eq_some_iff.mp hdd
  obtain ⟨sd,hsd,hud⟩:=hys2.get hu
  obtain ⟨ra,rfl,hra⟩:=door_atG (hyd.same S2)
  have hol:=hos nmo (List.mem_of_getElem? hnmo)
  have hj:j<qt.outs.length:=(List.getElem?_eq_some_iff.mp hdr).1
  have hR3j:R3[j]? = some (Rw.wire (a++nmo) dr.2 sd):=by rw [hR3,List.getElem?_map,zip_get hnmo (zip_get hdr hsd)];rfl
  have v1:=z_c hpq (.tup [.str nmo,.ref ra,u])
  have w1:=z_b (H:=J) (a:=pq) (o:=.tup [.str nmo,.ref ra,u])
  generalize upd J pq (.tup [.str nmo,.ref ra,u])=J1 at v1 w1 ⊢
  refine ⟨pq,_,rfl,SqT.of w1,rfl,_,_,rfl,_,_,rfl,_,_,rfl,rfl,?_⟩
  refine ⟨_,rfl,.inl ⟨rfl,_,SqL.of (v1 _ _ fp2)⟩,_,rfl,_,rfl,_,_,rfl,rfl,small (by lia),_,rfl,ra,_,_,_,rfl,rfl,SqT.of (v1 _ _ hra),rfl,_,rfl,(by show 4<=sizeLine;decide),fun pz hpz=>?_⟩
  have v2:=z_c hpz (.tup [.str "wire",.str (a++nmo),.int dr.2,u])
  have w2:=z_b (H:=J1) (a:=pz) (o:=.tup [.str "wire",.str (a++nmo),.int dr.2,u])
  generalize upd J1 pz (.tup [.str "wire",.str (a++nmo),.int dr.2,u])=J2 at v2 w2 ⊢
  have v12:=v1.trans v2
  have fp4:=v12 _ _ fp2
  refine ⟨p,_,_,rfl,rfl,fp4,y_b (by lia),?_⟩
  have keep:KeepT J2 (upd J2 p (.lst (zs'++[.ref pz]))):=KeepT.lst fp4 _
  refine ⟨_,_,_,zs'++[.ref pz],rfl,x_u (S2.trans v12) hp _,z_b,by rw [z_j npy];exact v12 _ _ fx2,Dats.keepT keep (z_u nL5) (hys2.same v12),by rw [List.length_append,hzl2];show _+1=_;lia,?_⟩
  rw [z_y hR3j,<-List.append_assoc,List.map_append]
  refine Dats.append (Dats.keepT keep (z_u fun d hd=>?_) (hzd2.same v12)) (.cons (Dat.keepT keep (x_o (nL5 sd (List.mem_of_getElem? hsd))) (Dat.tup w2 (.cons (Dat.str _) (.cons (Dat.str _) (.cons (Dat.int _) (.cons (hud.same v12) .nil)))))) .nil)
  obtain ⟨k',hk',rfl⟩:=List.mem_map.mp hd
  rcases List.mem_append.mp hk' with z | z
  ·exact nC5 k' z
  ·exact n3 k' (List.mem_of_mem_take z)
 ·rintro σ J ⟨x7',x8',x9,zs',rfl,S2,fp2,_,_,_,hzd2⟩
  rw [List.length_map,List.take_of_length_le (by lia)] at hzd2
  exact ⟨_,rfl,q p zs' J hp S2 fp2 hzd2⟩
theorem ok_rows_of(T:Tx w K mg A)(G_renamed:FnOk P w K mg base CX0 9 A.a_renamed A.d_renamed ["saying", "ahead"] (sp_ren 6))(n:Nat)(G_rows_of_use:FnOk P w K mg base CX0 (2*n+11) A.a_rows_of_use A.d_rows_of_use ["row", "ahead", "parts"] (sp_useG n)):FnOk P w K mg base CX0 (2*n+12) A.a_rows_of A.d_rows_of ["part", "ahead", "parts"] (sp_rowsG (n+1)):=by
 refine T.F_rows_of.ok sc_rows_of (fun vs H Q E h=>?_) (fun cdv A' outer s H vs Q E hr h=>?_)
 ·obtain ⟨P,v,a,d,kvs,lk,rfl,hD,hd,hPr,hOk,hLen,q⟩:=h
  rfl
 obtain ⟨P,v,a,d,kvs,lk,rfl,hD,hd,hPr,hOk,hLen,q⟩:=h
 have hu:=hu_of hr
 refine ⟨_,(z_f (z_r (i:=3) sc_rows_of.nd rfl (Or.inl rfl) (y_h z_d))
  (z_f (x_e PassesOwn.never rfl (pi_tup0 (z_l z_n (pv 0) z_e (fun _ _=>rfl))) (z_v (i:=4) sc_rows_of.nd rfl (Or.inl rfl))
    (z_i (x_a (z_s op_in_seq0 (z_l z_n (pv 4) z_e (fun _ _=>rfl)) (y_d (z_a z_t (z_a z_t z_d))) rfl) (z_i (x_b (pe_bmN PySem.F.plainAttrs_list PySem.F.slot_list_append PySem.F.type_list_append y_u (pv 3) (z_a (z_o op_catE (z_o op_catE (y_d (z_a (z_l z_n (pv 4) z_e (fun _ _=>rfl)) (z_a (z_o z_w (pv 1) (z_l z_n (pv 4) z_e (fun _ _=>rfl))) z_d))) (pe_slice sl_tupE (pv 4) (po_some z_e) (po_some (pe_un un_neg z_e)))) (y_d (z_a (z_k G_renamed (hr.mono (by first | decide | lia)) rfl T.M_renamed T.F_renamed.kp T.B_renamed .nil pass0 (z_a (z_l z_n (pv 4) (pe_un un_neg z_e) (fun _ _=>rfl)) (z_a (pv 1) z_d))) z_d))) z_d)))) (z_i (x_a (pt_cmp (pc_din hu (z_l z_n (pv 4) (pe_un un_neg z_e) (fun _ _=>rfl)) (pv 2))) (z_i (x_b (pe_bmN PySem.F.plainAttrs_list PySem.F.slot_list_extend PySem.F.type_list_extend mt_extend (pv 3) (z_a (z_k G_rows_of_use (hr.mono (by first | decide | lia)) rfl T.M_rows_of_use T.F_rows_of_use.kp T.B_rows_of_use .nil pass0 (z_a (pv 4) (z_a (pv 1) (z_a (pv 2) z_d)))) z_d)))) y_a)))))
  (z_i (z_z (pv 3))))),?_⟩
 obtain ⟨r,pd,po,pr,ds,os,rs,rfl,h1,h2,h3,h4,d1,d2,d3⟩:=x_c hD
 have hOk0:=hOk
 obtain ⟨hL,_,_,_,_,hrl,hrows⟩:=hOk
 have l3:=d3.length
 rw [List.length_map] at l3
 have nL:=rows_noL (a:=a) hOk0
 have nLt:∀ (i:Nat),∀ r∈(P.rows.take i).flatMap (rowF lk (rowsF lk n) a),noL r.dat=true:=fun i r hr=>nL r (by
  obtain ⟨s,hs,hr⟩:=List.mem_flatMap.mp hr
  exact List.mem_flatMap.mpr ⟨s,List.mem_of_mem_take hs,hr⟩)
 have fl:∀ i,((P.rows.take i).flatMap (rowF lk (rowsF lk n) a)).length<=10000:=fun i=>Nat.le_trans (flat_le _ _ i) hLen
 refine ⟨(by show 0<=sizeLine;decide),fun p hp=>?_⟩
 have s1:=z_c hp (.lst [])
 refine ⟨_,rfl,r,_,_,_,rfl,rfl,SqT.of (s1 _ _ h1),rfl,pr,rfl,⟨_,SqT.of (s1 _ _ h4)⟩,for_tup (xs:=rs) (fun i σ H'=>∃ (x:Option V) (zs:List V),σ=[some (.ref r),some (.str a),some (.ref d),some (.ref p),x]/\Same H H'/\H' p=some (.lst zs)/\Dats H' (((P.rows.take i).flatMap (rowF lk (rowsF lk n) a)).map Rw.dat) zs) ⟨_,[],rfl,s1,z_b,.nil⟩ ?_ ?_ ?_⟩
 ·rintro i σ H' _ ⟨_,_,rfl,s',_⟩
  exact SqT.of (s' _ _ h4)
 ·rintro i v σ H' hv ⟨x0,zs,rfl,s',fp,hzd⟩
  obtain ⟨dr,hdr,hvd⟩:=d3.get hv
  rw [List.getElem?_map] at hdr
  obtain ⟨rw_,hrw,rfl⟩:=Option.map_eq_some_iff.mp hdr
  have hR:=hrows rw_ (List.mem_of_getElem? hrw)
  have hzl:=hzd.length
  rw [List.length_map] at hzl
  have fli:=fl i
  have fli1:=fl (i+1)
  rw [x_n hrw,List.length_append] at fli1
  cases rw_ with
  | wire x w s =>
   obtain ⟨hx,hSay⟩:=hR
   obtain ⟨rr,sv,rfl,hr,hs⟩:=wire_at (hvd.same s')
   refine ⟨_,rfl,rr,_,_,_,rfl,rfl,SqT.of hr,rfl,(by show 2<=sizeLine;decide),fun pt hpt=>?_⟩
   have t1:=z_c hpt (.tup [.str "wire",.str "box"])
   have g1:=z_b (H:=H') (a:=pt) (o:=.tup [.str "wire",.str "box"])
   generalize upd H' pt (.tup [.str "wire",.str "box"])=H2 at t1 g1 ⊢
   refine ⟨pt,_,rfl,.inr (SqT.of g1),rfl,rfl,_,rfl,?_⟩
   refine ite_t (by decide) ?_
   refine ⟨_,rfl,.inl ⟨rfl,_,SqL.of (t1 _ _ fp)⟩,_,rfl,rr,_,_,_,rfl,rfl,SqT.of (t1 _ _ hr),rfl,_,rfl,_,rfl,rr,_,_,_,rfl,rfl,SqT.of (t1 _ _ hr),rfl,_,_,rfl,rfl,small (by lia),(by show 2<=sizeLine;decide),fun pu hpu=>?_⟩
   have t2:=z_c hpu (.tup [.str "wire",.str (a++x)])
   have g2:=z_b (H:=H2) (a:=pu) (o:=.tup [.str "wire",.str (a++x)])
   generalize upd H2 pu (.tup [.str "wire",.str (a++x)])=H3 at t2 g2 ⊢
   have t12:=t1.trans t2
   refine ⟨_,rfl,_,rfl,_,rfl,_,rfl,rr,_,rfl,t12 _ _ hr,fun pv H4 t3 g3=>?_⟩
   have e3:cutV [V.str "wire",V.str x,V.int w,sv] (some 2) (some (-1))=[V.int w]:=rfl
   rw [e3] at g3
   refine ⟨pu,pv,_,_,rfl,rfl,t3 _ _ g2,g3,(by show 2+1<=sizeLine;decide),fun pw H5 t4 g4=>?_⟩
   have t15:=t12.trans (t3.trans t4)
   refine ⟨_,rfl,_,rfl,rr,_,_,_,rfl,rfl,SqT.of (t15 _ _ hr),rfl,_,rfl,s,renF a 6 s,sv,a,rfl,hs.same t15,SayD.ren (by lia) hSay,fun sv' H6 t5 hs'=>?_⟩
   refine ⟨(by show 1<=sizeLine;decide),fun px hpx=>?_⟩
   have t6:=z_c hpx (.tup [sv'])
   refine ⟨pw,px,_,_,rfl,rfl,(t5.trans t6) _ _ g4,z_b,(by show 2+1+1<=sizeLine;decide),fun pz H8 t7 g7=>?_⟩
   have T8:=t15.trans (t5.trans (t6.trans t7))
   have hs8:=hs'.same (t6.trans t7)
   have fp8:=T8 _ _ fp
   refine ⟨p,_,_,rfl,rfl,fp8,y_b (by lia),?_⟩
   have keep:KeepT H8 (upd H8 p (.lst (zs++[.ref pz]))):=KeepT.lst fp8 _
   refine ⟨_,zs++[.ref pz],rfl,x_u (s'.trans T8) hp _,z_b,?_⟩
   rw [x_n hrw,List.map_append]
   refine Dats.append (Dats.keepT keep (z_u fun d hd=>?_) (hzd.same T8)) (.cons ?_ .nil)
   ·obtain ⟨k',hk',rfl⟩:=List.mem_map.mp hd
    exact nLt i k' hk'
   ·exact Dat.keepT keep (x_o (noL_ren hSay)) (Dat.tup g7 (.cons (Dat.str _) (.cons (Dat.str _) (.cons (Dat.int _) (.cons hs8 .nil)))))
  | box x w f s =>
   obtain ⟨hx,hSay⟩:=hR
   obtain ⟨rr,sv,rfl,hr,hs⟩:=box_at (hvd.same s')
   refine ⟨_,rfl,rr,_,_,_,rfl,rfl,SqT.of hr,rfl,(by show 2<=sizeLine;decide),fun pt hpt=>?_⟩
   have t1:=z_c hpt (.tup [.str "wire",.str "box"])
   have g1:=z_b (H:=H') (a:=pt) (o:=.tup [.str "wire",.str "box"])
   generalize upd H' pt (.tup [.str "wire",.str "box"])=H2 at t1 g1 ⊢
   refine ⟨pt,_,rfl,.inr (SqT.of g1),rfl,rfl,_,rfl,?_⟩
   refine ite_t (by decide) ?_
   refine ⟨_,rfl,.inl ⟨rfl,_,SqL.of (t1 _ _ fp)⟩,_,rfl,rr,_,_,_,rfl,rfl,SqT.of (t1 _ _ hr),rfl,_,rfl,_,rfl,rr,_,_,_,rfl,rfl,SqT.of (t1 _ _ hr),rfl,_,_,rfl,rfl,small (by lia),(by show 2<=sizeLine;decide),fun pu hpu=>?_⟩
   have t2:=z_c hpu (.tup [.str "box",.str (a++x)])
   have g2:=z_b (H:=H2) (a:=pu) (o:=.tup [.str "box",.str (a++x)])
   generalize upd H2 pu (.tup [.str "box",.str (a++x)])=H3 at t2 g2 ⊢
   have t12:=t1.trans t2
   refine ⟨_,rfl,_,rfl,_,rfl,_,rfl,rr,_,rfl,t12 _ _ hr,fun pv H4 t3 g3=>?_⟩
   have e3:cutV [V.str "box",V.str x,V.int w,V.int f,sv] (some 2) (some (-1))=[V.int w,V.int f]:=rfl
   rw [e3] at g3
   refine ⟨pu,pv,_,_,rfl,rfl,t3 _ _ g2,g3,(by show 2+2<=sizeLine;decide),fun pw H5 t4 g4=>?_⟩
   have t15:=t12.trans (t3.trans t4)
   refine ⟨_,rfl,_,rfl,rr,_,_,_,rfl,rfl,SqT.of (t15 _ _ hr),rfl,_,rfl,s,renF a 6 s,sv,a,rfl,hs.same t15,SayD.ren (by lia) hSay,fun sv' H6 t5 hs'=>?_⟩
   refine ⟨(by show 1<=sizeLine;decide),fun px hpx=>?_⟩
   have t6:=z_c hpx (.tup [sv'])
   refine ⟨pw,px,_,_,rfl,rfl,(t5.trans t6) _ _ g4,z_b,(by show 2+2+1<=sizeLine;decide),fun pz H8 t7 g7=>?_⟩
   have T8:=t15.trans (t5.trans (t6.trans t7))
   have hs8:=hs'.same (t6.trans t7)
   have fp8:=T8 _ _ fp
   refine ⟨p,_,_,rfl,rfl,fp8,y_b (by lia),?_⟩
   have keep:KeepT H8 (upd H8 p (.lst (zs++[.ref pz]))):=KeepT.lst fp8 _
   refine ⟨_,zs++[.ref pz],rfl,x_u (s'.trans T8) hp _,z_b,?_⟩
   rw [x_n hrw,List.map_append]
   refine Dats.append (Dats.keepT keep (z_u fun d hd=>?_) (hzd.same T8)) (.cons ?_ .nil)
   ·obtain ⟨k',hk',rfl⟩:=List.mem_map.mp hd
    exact nLt i k' hk'
   ·exact Dat.keepT keep (noL_box (noL_ren hSay)) (Dat.tup g7 (.cons (Dat.str _) (.cons (Dat.str _) (.cons (Dat.int _) (.cons (Dat.int _) (.cons hs8 .nil))))))
  | use c lb nm ss os =>
   obtain ⟨rr,xs',ps,po',sv,rfl,hr,y0,_,y3,_⟩:=use_at (hvd.same s')
   refine ⟨_,rfl,rr,_,_,_,rfl,rfl,SqT.of hr,y0,(by show 2<=sizeLine;decide),fun pt hpt=>?_⟩
   have t1:=z_c hpt (.tup [.str "wire",.str "box"])
   have g1:=z_b (H:=H') (a:=pt) (o:=.tup [.str "wire",.str "box"])
   generalize upd H' pt (.tup [.str "wire",.str "box"])=H2 at t1 g1 ⊢
   refine ⟨pt,_,rfl,.inr (SqT.of g1),rfl,rfl,_,rfl,?_⟩
   refine ite_f (wd_nin c) ?_
   refine ⟨_,rfl,_,rfl,rr,_,_,_,rfl,rfl,SqT.of (t1 _ _ hr),y3,_,rfl,d,_,rfl,DGet.k (k:=.inr nm) ((s'.trans t1) _ _ hd),_,rfl,?_⟩
   rcases hPr nm with ⟨e1,e2⟩ | ⟨qq,pp,e1,e2,_⟩
   ·rw [e2]
    refine ite_f rfl ?_
    refine ⟨_,zs,rfl,s'.trans t1,t1 _ _ fp,?_⟩
    rw [x_n hrw]
    rw [rowF_none e1,List.append_nil]
    exact hzd.same t1
   ·rw [e2]
    refine ite_t rfl ?_
    have eF:rowF lk (rowsF lk n) a (.use c lb nm ss os)=useF (rowsF lk n) a qq c lb (ss.map (renF a 6)) os:=x_g e1
    rw [eF] at fli1
    refine ⟨_,rfl,.inl ⟨rfl,_,SqL.of (t1 _ _ fp)⟩,_,rfl,_,rfl,_,rfl,.ref rr,a,c,lb,nm,ss,os,qq,d,kvs,lk,rfl,hvd.same (s'.trans t1),(s'.trans t1) _ _ hd,hPr.same (s'.trans t1),e1,hR,hL,by lia,fun p2 x2 H3 hp2 t3 g3 hx2=>?_⟩
    have l2:=hx2.length
    rw [List.length_map] at l2
    have fp3:=t3 _ _ (t1 _ _ fp)
    refine ⟨p,p2,_,_,rfl,rfl,fp3,g3,small (by lia),?_⟩
    have keep:KeepT H3 (upd H3 p (.lst (zs++x2))):=KeepT.lst fp3 _
    refine ⟨_,zs++x2,rfl,x_u (s'.trans (t1.trans t3)) hp _,z_b,?_⟩
    rw [x_n hrw,List.map_append,eF]
    refine Dats.append (Dats.keepT keep (z_u fun d hd=>?_) (hzd.same (t1.trans t3))) (Dats.keepT keep (z_u fun d hd=>?_) hx2)
    ·obtain ⟨k',hk',rfl⟩:=List.mem_map.mp hd
     exact nLt i k' hk'
    ·obtain ⟨k',hk',rfl⟩:=List.mem_map.mp hd
     refine nLt (i+1) k' ?_
     rw [x_n hrw,eF]
     exact List.mem_append_right _ hk'
 ·rintro σ H' ⟨x,zs,rfl,s',fp,hzd⟩
  rw [<-l3,List.take_length] at hzd
  exact ⟨_,rfl,q p zs H' hp s' fp hzd⟩
theorem ok_spread(T:Tx w K mg A)(G_brings_rows:FnOk P w K mg base CX0 1 A.a_brings_rows A.d_brings_rows ["part", "parts"] sp_bringsG)(G_rows_of:FnOk P w K mg base CX0 16 A.a_rows_of A.d_rows_of ["part", "ahead", "parts"] (sp_rowsG 3)):FnOk P w K mg base CX0 17 A.a_spread A.d_spread ["plan"] (sp_spreadG 3):=by
 refine T.F_spread.ok sc_spread (fun vs H Q E h=>?_) (fun cdv A' outer s H vs Q E hr h=>?_)
 ·obtain ⟨pl,vs',Ps,P,rfl,hpl,hDs,hlast,hl100,hr1000,hOk,hLen,q⟩:=h
  rfl
 obtain ⟨pl,vs',Ps,P,rfl,hpl,hDs,hlast,hl100,hr1000,hOk,hLen,q⟩:=h
 have hu:=hu_of hr
 refine ⟨_,(z_f (z_r (i:=1) sc_spread.nd rfl (Or.inl rfl) pe_dnewK)
  (z_f (x_e PassesOwn.never rfl (pi_list0 (pv 0)) (z_v (i:=2) sc_spread.nd rfl (Or.inl rfl))
    (z_i (x_a (pt_truth0 (z_k G_brings_rows (hr.mono (by first | decide | lia)) rfl T.M_brings_rows T.F_brings_rows.kp T.B_brings_rows .nil pass0 (z_a (pv 2) (z_a (pv 1) z_d))) (fun _=>rfl)) (z_i (ps_dput hu (pv 1) (z_l z_n (pv 2) z_e (fun _ _=>rfl)) (pv 2) rfl)) y_a)))
  (z_f (z_r (i:=3) sc_spread.nd rfl (Or.inl rfl) (z_l z_x (pv 0) (pe_un un_neg z_e) (fun _ _=>rfl)))
  (z_i (z_z (y_d (z_a (y_g call_list_of0 rfl T.list PyProof.Rows.boot_list (z_a (z_l z_n (pv 3) z_e (fun _ _=>rfl)) z_d)) (z_a (y_g call_list_of0 rfl T.list PyProof.Rows.boot_list (z_a (z_l z_n (pv 3) z_e (fun _ _=>rfl)) z_d)) (z_a (z_k G_rows_of (hr.mono (by first | decide | lia)) rfl T.M_rows_of T.F_rows_of.kp T.B_rows_of .nil pass0 (z_a (pv 3) (z_a z_t (z_a (pv 1) z_d)))) z_d))))))))),?_⟩
 have lvs:=hDs.length
 rw [List.length_map] at lvs
 obtain ⟨Pi,hPi⟩:=List.getLast?_eq_some_iff.mp hlast
 have hlen1:Ps.length=Pi.length+1:=by rw [hPi,List.length_append];rfl
 obtain ⟨vl,hvl,hDl⟩:∃ vl,vs'[Pi.length]? = some vl/\Dat H P.dat vl:=by
  have hi:Pi.length<vs'.length:=by lia
  obtain ⟨dd,h1,h2⟩:=hDs.get (List.getElem?_eq_getElem hi)
  rw [List.getElem?_map,hPi,List.getElem?_append_right (Nat.le_refl _),Nat.sub_self] at h1
  cases h1
  exact ⟨_,List.getElem?_eq_getElem hi,h2⟩
 intro dd hdd
 have s1:=z_c hdd (.dK [])
 have g1:=z_b (H:=H) (a:=dd) (o:=.dK [])
 dsimp only [gName]
 generalize upd H dd (.dK [])=H1 at s1 g1 ⊢
 refine ⟨_,rfl,pl,rfl,⟨_,SqL.of (s1 _ _ hpl)⟩,for_list (xs:=vs') (fun i σ H'=>∃ (x:Option V) (kvs:List (Key×V)),σ=[some (.ref pl),some (.ref dd),x,none]/\Same H H'/\H' dd=some (.dK kvs)/\kvs.length<=i/\Prts H kvs (lkA (Ps.take i))) ⟨_,[],rfl,s1,g1,Nat.le_refl _,fun x=>.inl ⟨rfl,rfl⟩⟩ ?_ ?_ ?_⟩
 ·rintro i σ H' _ ⟨_,_,rfl,s',_⟩
  exact SqL.of (s' _ _ hpl)
 ·rintro i v σ H' hv ⟨x,kvs,rfl,s',fd,hk,hPr⟩
  have hi:i<vs'.length:=(List.getElem?_eq_some_iff.mp hv).1
  obtain ⟨dq,hdq,hvd⟩:=hDs.get hv
  rw [List.getElem?_map] at hdq
  obtain ⟨qt,hqt,rfl⟩:=Option.map_eq_some_iff.mp hdq
  have etk:lkA (Ps.take (i+1))=lkP (lkA (Ps.take i)) qt:=by
   unfold lkA
   rw [z_y hqt,List.foldl_append]
   rfl
  refine ⟨_,rfl,_,rfl,qt,v,dd,kvs,lkA (Ps.take i),rfl,hvd.same s',fd,hPr.same s',hr1000 qt (List.mem_of_getElem? hqt),fun H2 s2=>⟨_,rfl,?_⟩⟩
  have fd2:=s2 _ _ fd
  have S2:=s'.trans s2
  by_cases c:brB (lkA (Ps.take i)) qt=true
  ·refine ite_t c ?_
   obtain ⟨r,pd,po,pr,ds,os,rs,rfl,h1,_⟩:=x_c (hvd.same S2)
   refine ⟨_,rfl,_,rfl,_,rfl,r,_,_,_,rfl,rfl,SqT.of h1,rfl,dd,_,rfl,DPut.k (k:=.inr qt.nm) fd2 (y_b (by lia)),?_⟩
   have hS3:Same H (upd H2 dd (.dK (putK kvs (.inr qt.nm) (.ref r)))):=x_u S2 hdd _
   refine ⟨_,_,rfl,hS3,z_b,by have:=x_q kvs (.inr qt.nm) (V.ref r);lia,fun z=>?_⟩
   rw [etk,valV_put]
   unfold lkP
   rw [if_pos c]
   by_cases e:z=qt.nm
   ·subst e
    rw [if_pos rfl,if_pos rfl]
    exact .inr ⟨qt,r,rfl,rfl,hvd⟩
   ·rw [if_neg e,if_neg (fun y=>e (Sum.inr.inj y))]
    exact hPr z
  ·refine ite_f (Bool.eq_false_iff.mpr c) ?_
   refine ⟨_,_,rfl,S2,fd2,by lia,?_⟩
   rw [etk]
   unfold lkP
   rw [if_neg c]
   exact hPr
 ·rintro σ H' ⟨x,kvs,rfl,s',fd,hk,hPr⟩
  rw [<-lvs,List.take_length] at hPr
  have eat:atI vs' (-1)=some vl:=by
   rw [<-hvl]
   unfold atI
   rw [show ixN vs'.length (-1)=some Pi.length by unfold ixN;rw [if_neg (by decide),if_pos (by lia)];congr 1;lia]
   rfl
  obtain ⟨r,pd,po,pr,ds,os,rs,rfl,h1,h2,h3,h4,d1,d2,d3⟩:=x_c hDl
  refine ⟨_,rfl,_,rfl,pl,_,_,_,rfl,rfl,SqL.of (s' _ _ hpl),eat,?_⟩
  refine ⟨_,rfl,r,_,_,_,rfl,rfl,SqT.of (s' _ _ h1),rfl,pd,_,rfl,.inr (SqT.of (s' _ _ h2)),fun l1 hl1=>?_⟩
  have t1:=z_c hl1 (.lst ds)
  have g1:=z_b (H:=H') (a:=l1) (o:=.lst ds)
  generalize upd H' l1 (.lst ds)=H2 at t1 g1 ⊢
  have s2:=s'.trans t1
  refine ⟨_,rfl,r,_,_,_,rfl,rfl,SqT.of (s2 _ _ h1),rfl,po,_,rfl,.inr (SqT.of (s2 _ _ h3)),fun l2 hl2=>?_⟩
  have t2:=z_c hl2 (.lst os)
  have g2:=z_b (H:=H2) (a:=l2) (o:=.lst os)
  have n12:l1≠l2:=z_g g1 hl2
  generalize upd H2 l2 (.lst os)=H3 at t2 g2 ⊢
  have s3:=s2.trans t2
  refine ⟨_,rfl,_,rfl,P,.ref r, "",dd,kvs,lkA Ps,rfl,hDl.same s3,t2 _ _ (t1 _ _ fd),hPr.same s3,hOk,hLen,fun l3 x3 H4 hl3 t3 g3 hx3=>?_⟩
  refine ⟨(by show 3<=sizeLine;decide),fun t ht=>?_⟩
  have t4:=z_c ht (.tup [.ref l1,.ref l2,.ref l3])
  exact q t l1 l2 l3 ds os x3 _ (s3.trans (t3.trans t4)) ⟨s'.free hl1,s2.free hl2,s3.free hl3⟩ ⟨n12,z_g (t2 _ _ g1) hl3,z_g g2 hl3⟩ z_b (t4 _ _ (t3 _ _ (t2 _ _ g1))) (t4 _ _ (t3 _ _ g2)) (t4 _ _ g3) (d1.same (s3.trans (t3.trans t4))) (d2.same (s3.trans (t3.trans t4))) (hx3.same t4)
theorem ok_L_bag(T:Tx w K mg A):FnOk P w K mg base CX0 1 A.a_L_bag A.d_L_bag ["_law_script", "_law_at"] (sp_L_bag K):=by
 refine T.F_L_bag.ok sc_L_bag (fun vs H Q E h=>?_) (fun cdv A' outer s H vs Q E hr h=>?_)
 ·obtain ⟨a,ns,i,rfl,hS,h63,hi,q⟩:=h
  rfl
 obtain ⟨a,ns,i,rfl,hS,h63,hi,q⟩:=h
 refine ⟨_,(z_f (z_r (i:=2) sc_L_bag.nd rfl (Or.inl rfl) z_e)
  (z_f (x_a (z_s op_lt (pv 1) (z_p call_len rfl T.len PySem.boot_len (z_a (pv 0) z_d)) (nomark _)) (z_i (z_r (i:=2) sc_L_bag.nd rfl (Or.inl rfl) (z_p call_abs rfl T.abs PyProof.Rows.boot_abs (z_a (z_l y_p (pv 0) (pv 1) (fun _ _=>rfl)) z_d)))) y_a)
  (z_f (z_r (i:=3) sc_L_bag.nd rfl (Or.inl rfl) (z_o y_k (z_o op_mul z_e (pv 1)) z_e))
  (z_f (x_e PassesOwn.never rfl (y_o rfl T.range (z_a (z_p (call_min2 rfl) rfl T.min PyProof.Rows.boot_min (z_a (z_p call_len rfl T.len PySem.boot_len (z_a (pv 0) z_d)) (z_a z_e z_d))) z_d)) (z_v (i:=4) sc_L_bag.nd rfl (Or.inl rfl))
    (z_i (z_r (i:=3) sc_L_bag.nd rfl (Or.inl rfl) (z_o op_mod (z_o y_k (z_o y_k (z_o op_mul (pv 3) z_e) (z_o op_mod (z_l y_p (pv 0) (pv 4) (fun _ _=>rfl)) z_e)) (z_o op_mul z_e (pv 4))) z_e))))
  (z_i (z_z (y_h (z_a (z_p (call_max2 rfl) rfl T.max PyProof.Rows.boot_max (z_a z_e (z_a (z_o op_sub (pv 2) (z_o op_pow z_e z_e)) z_d))) (z_a (z_o y_k (pv 3) z_e) z_d))))))))),?_⟩
 have hl:(ns.map V.int).length=ns.length:=List.length_map _
 refine ⟨_,rfl,_,rfl,_,_,rfl,.inl ⟨_,hS,rfl⟩,_,_,rfl,rfl,_,rfl,?_⟩
 refine ite2 (fun c=>?_) (fun c=>?_)
 ·have c':i<(((ns.map V.int).length:Nat):Int):=of_decide_eq_true c
  rw [hl] at c'
  obtain ⟨v,hv⟩:=at_mapI hi c'
  refine ⟨_,rfl,_,rfl,a,_,_,_,rfl,rfl,hS,hv,_,rfl,?_⟩
  refine ⟨_,rfl,_,_,rfl,rfl,.inl ⟨by decide,by decide⟩,_,_,rfl,rfl,?_⟩
  refine ⟨_,rfl,_,_,rfl,.inl ⟨_,hS,rfl⟩,_,_,rfl,_,rfl,?_,?_,x_r (lo:=0) (fun k σ H'=>∃ (m:Int) (x:Option V),σ=[some (.ref a),some (.int i),some (.int (if v<0 then -v else v)),some (.int m),x]/\H'=H) ⟨_,_,rfl,rfl⟩ ?_ ?_⟩
  ·split<;>lia
  ·split<;>lia
  ·rintro k σ H' hk ⟨m,x,rfl,rfl⟩
   have hk':k<ns.length:=by
    rw [hl] at hk
    split at hk<;>lia
   obtain ⟨u,hu⟩:=at_map (ns:=ns) hk'
   refine ⟨_,rfl,_,_,rfl,rfl,.inr ⟨by decide,by decide⟩,_,rfl,_,rfl,a,_,_,_,rfl,rfl,hS,(by rw [Int.zero_add];exact hu),_,_,rfl,rfl,(by show (0:Int)<2147483647;decide),_,_,rfl,rfl,_,rfl,_,_,rfl,rfl,.inl ⟨by decide,by decide⟩,_,_,rfl,rfl,_,_,rfl,rfl,(by show (0:Int)<2147483629;decide),?_⟩
   exact ⟨_,_,rfl,rfl⟩
  ·rintro σ H' ⟨m,x,rfl,rfl⟩
   refine ⟨_,rfl,_,_,rfl,rfl,⟨by decide,by decide,by decide⟩,_,_,rfl,rfl,_,_,rfl,_,rfl,_,_,rfl,rfl,(by show 2<=sizeLine;decide),fun l hl'=>?_⟩
   exact q l _ _ hl' (by split<;>lia)
 ·refine ⟨_,rfl,_,_,rfl,rfl,.inl ⟨by decide,by decide⟩,_,_,rfl,rfl,?_⟩
  refine ⟨_,rfl,_,_,rfl,.inl ⟨_,hS,rfl⟩,_,_,rfl,_,rfl,?_,?_,x_r (lo:=0) (fun k σ H'=>∃ (m:Int) (x:Option V),σ=[some (.ref a),some (.int i),some (.int 0),some (.int m),x]/\H'=H) ⟨_,_,rfl,rfl⟩ ?_ ?_⟩
  ·split<;>lia
  ·split<;>lia
  ·rintro k σ H' hk ⟨m,x,rfl,rfl⟩
   have hk':k<ns.length:=by
    rw [hl] at hk
    split at hk<;>lia
   obtain ⟨u,hu⟩:=at_map (ns:=ns) hk'
   refine ⟨_,rfl,_,_,rfl,rfl,.inr ⟨by decide,by decide⟩,_,rfl,_,rfl,a,_,_,_,rfl,rfl,hS,(by rw [Int.zero_add];exact hu),_,_,rfl,rfl,(by show (0:Int)<2147483647;decide),_,_,rfl,rfl,_,rfl,_,_,rfl,rfl,.inl ⟨by decide,by decide⟩,_,_,rfl,rfl,_,_,rfl,rfl,(by show (0:Int)<2147483629;decide),?_⟩
   exact ⟨_,_,rfl,rfl⟩
  ·rintro σ H' ⟨m,x,rfl,rfl⟩
   refine ⟨_,rfl,_,_,rfl,rfl,⟨by decide,by decide,by decide⟩,_,_,rfl,rfl,_,_,rfl,_,rfl,_,_,rfl,rfl,(by show 2<=sizeLine;decide),fun l hl'=>?_⟩
   exact q l _ _ hl' (by split<;>lia)
theorem ok_L_take(T:Tx w K mg A):FnOk P w K mg base CX0 1 A.a_L_take A.d_L_take ["_law_bag_here", "_law_many"] y_v:=by
 refine T.F_L_take.ok sc_L_take (fun vs H Q E h=>?_) (fun cdv A' outer s H vs Q E hr h=>?_)
 ·obtain ⟨l,many,rfl,⟨b0,b1,hl,hb0⟩,h0,hbig,q⟩:=h
  rfl
 obtain ⟨l,many,rfl,⟨b0,b1,hl,hb0⟩,h0,hbig,q⟩:=h
 refine ⟨_,(z_f (x_a (z_s op_gt (z_l z_x (pv 0) z_e (fun _ _=>rfl)) z_e (nomark _)) (z_f (z_r (i:=2) sc_L_take.nd rfl (Or.inl rfl) (z_o op_mod (z_l z_x (pv 0) z_e (fun _ _=>rfl)) (pv 1)))
  (z_f (ps_asg (z_o op_fdivL (z_l z_x (pv 0) z_e (fun _ _=>rfl)) (pv 1)) (pg_sub (pv 0) z_e set_list))
  (z_i (z_z (pv 2))))) y_a)
  (z_f (ps_asg (z_o op_mod (z_o y_k (z_o op_mul (z_l z_x (pv 0) z_e (fun _ _=>rfl)) z_e) z_e) z_e) (pg_sub (pv 0) z_e set_list))
  (z_i (z_z (z_o op_mod (z_o op_mod (z_o op_mul (z_o op_fdivL (z_l z_x (pv 0) z_e (fun _ _=>rfl)) z_e) z_e) z_e) (pv 1)))))),?_⟩
 refine ⟨_,rfl,l,_,0,_,rfl,rfl,SqL.of hl,rfl,_,_,rfl,rfl,_,rfl,?_⟩
 refine ite2 (fun c=>?_) (fun c=>?_)
 ·have c':0<b0:=of_decide_eq_true c
  refine ⟨_,rfl,l,_,0,_,rfl,rfl,SqL.of hl,rfl,_,rfl,_,_,rfl,rfl,h0,?_⟩
  refine ⟨_,rfl,l,_,0,_,rfl,rfl,SqL.of hl,rfl,_,rfl,_,_,rfl,rfl,⟨h0,hbig⟩,_,rfl,l,_,0,0,rfl,rfl,hl,rfl,?_⟩
  refine ⟨_,rfl,?_⟩
  exact q _ _ (Int.emod_nonneg _ (by lia)) (Int.emod_lt_of_pos _ h0) (Bg.put _ _ (Int.ediv_nonneg hb0 (by lia)))
 ·refine ⟨_,rfl,l,_,1,_,rfl,rfl,SqL.of hl,rfl,_,_,rfl,rfl,.inr ⟨by decide,by decide⟩,_,_,rfl,rfl,_,_,rfl,rfl,(by show (0:Int)<2147483647;decide),_,rfl,l,_,1,1,rfl,rfl,hl,rfl,?_⟩
  refine ⟨_,rfl,l,_,1,_,rfl,rfl,SqL.of z_b,rfl,_,_,rfl,rfl,⟨by decide,by decide⟩,_,_,rfl,rfl,.inr ⟨by decide,by decide⟩,_,_,rfl,rfl,(by show (0:Int)<2147483629;decide),_,rfl,_,_,rfl,rfl,h0,?_⟩
  exact q _ _ (Int.emod_nonneg _ (by lia)) (Int.emod_lt_of_pos _ h0) (Bg.put _ _ hb0)
theorem ok_L_pool(T:Tx w K mg A)(G_L_take:FnOk P w K mg base CX0 1 A.a_L_take A.d_L_take ["_law_bag_here", "_law_many"] y_v):FnOk P w K mg base CX0 2 A.a_L_pool A.d_L_pool ["_law_bag_here", "_law_many"] sp_poolD:=by
 refine T.F_L_pool.ok sc_L_pool (fun vs H Q E h=>?_) (fun cdv A' outer s H vs Q E hr h=>?_)
 ·obtain ⟨l,m,rfl,hb,hm,q⟩:=h
  rfl
 obtain ⟨l,m,rfl,hb,hm,q⟩:=h
 conv in (z_m _)=>whnf
 simp only [bigL_eq,bigT_eq]
 refine ⟨_,(z_f (ps_comp [0] sc_L_pool.nd (i:=2) rfl (Or.inl rfl) (fun _ _ h=>h) rfl (y_o rfl T.range (z_a (z_o y_k z_e (z_k G_L_take (hr.mono (by first | decide | lia)) rfl T.M_L_take T.F_L_take.kp T.B_L_take .nil pass0 (z_a (pv 0) (z_a z_e z_d)))) z_d)) (fun _ _ _ _=>y_n) (fun _ _ _ _=>(z_l ix_str z_t (z_k G_L_take (hr.mono (by first | decide | lia)) rfl T.M_L_take T.F_L_take.kp T.B_L_take .nil pass0 (z_a (pv 1) (z_a z_e z_d))) (fun _ _=>rfl))) rfl (show ∀ j∈([0]:List Nat),j<8 by decide) (show (["_law_k", "_law_bag_here"]:List Str).Nodup by decide +kernel) (by with_unfolding_all rfl))
  (z_f (z_r (i:=3) sc_L_pool.nd rfl (Or.inl rfl) (z_k G_L_take (hr.mono (by first | decide | lia)) rfl T.M_L_take T.F_L_take.kp T.B_L_take .nil pass0 (z_a (pv 0) (z_a (z_p y_f rfl T.len PySem.boot_len (z_a (pv 2) z_d)) z_d))))
  (z_f (z_r (i:=4) sc_L_pool.nd rfl (Or.inl rfl) (pe_bigL rfl) (by unfold bigL;rfl))
  (z_f (z_r (i:=5) sc_L_pool.nd rfl (Or.inl rfl) (y_h z_d))
  (z_f (x_e PassesOwn.never rfl (y_o rfl T.range (z_a (pv 1) z_d)) (z_v (i:=6) sc_L_pool.nd rfl (Or.inl rfl))
    (z_f (z_r (i:=7) sc_L_pool.nd rfl (Or.inl rfl) (z_o z_w (z_o z_w (pe_bmN PySem.F.plainAttrs_str PySem.F.slot_str_join PySem.F.type_str_join mt_join z_t (z_a (pe_slice sl_list0 (pv 2) po_none (po_some (pv 3))) z_d)) (z_l ix_str z_t (pv 6) (fun _ _=>rfl))) (pe_bmN PySem.F.plainAttrs_str PySem.F.slot_str_join PySem.F.type_str_join mt_join z_t (z_a (pe_slice sl_list0 (pv 2) (po_some (z_o y_k (pv 3) z_e)) po_none) z_d))))
  (z_i (x_b (pe_bmN PySem.F.plainAttrs_list PySem.F.slot_list_append PySem.F.type_list_append y_u (pv 5) (z_a (z_o z_w (pv 7) (z_o op_mulS z_t (y_g call_int1 rfl T.int PyProof.Rows.boot_int (z_a (pe_cmpR op_in_seq0 (pv 7) (z_o op_cat (pv 4) (y_h (z_a z_t (z_a z_t z_d)))) rfl) z_d)))) z_d))))))
  (z_i (z_z (pv 5)))))))),?_⟩
 refine ⟨_,rfl,l,7,rfl,hb,by decide,by decide,fun d H1 d0 d1 hb1=>?_⟩
 refine ⟨_,_,rfl,rfl,_,rfl,by lia,by lia,comp_range (lo:=0) (fun i ys H'=>Bg l H H'/\∃ zs:List Str,ys=zs.map V.str/\zs.length=i/\∀ z∈zs,z.length=1/\PyData.strOk z=true/\dotF z) ⟨hb1,[],rfl,rfl,(fun _ h=>nomatch h)⟩ ?_ ?_ ?_⟩
 ·rintro i ys H' hi ⟨g,zs,rfl,hl,hz⟩
  rw [List.length_map]
  exact y_b (by lia)
 ·rintro i ys H' hi ⟨g,zs,rfl,hl,hz⟩
  unfold tYes
  refine iteT ⟨_,rfl,l,26,rfl,g.2,by decide,by decide,fun e H3 e0 e1 hb3=>?_⟩
  obtain ⟨c,hc,hcm⟩:=at_any (xs:=("abcdefghijklmnopqrstuvwxyz" : Str).cps.toList) e0 (show e<26 from e1)
  refine ⟨_,_,c,rfl,rfl,(by decide),hc,?_⟩
  refine ⟨g.trans hb3,zs++[⟨#[c]⟩],by rw [List.map_append];rfl,by rw [List.length_append,hl];rfl,fun z hz'=>?_⟩
  rcases List.mem_append.mp hz' with h | h
  ·exact hz z h
  ·rw [List.mem_singleton.mp h];exact ⟨rfl,ok_one (abc_ok c (List.mem_of_getElem? hcm)),dot_one (abc_dot c (List.mem_of_getElem? hcm))⟩
 ·rintro ys H2 ⟨g,zs,rfl,hl,hz⟩ ps hps
  have nps:ps≠l:=g.2.ne hps
  have g3:=g.trans (Bg.new g.2 hps (.lst (zs.map V.str)))
  have hps3:=z_b (H:=H2) (a:=ps) (o:=.lst (zs.map V.str))
  generalize upd H2 ps (.lst (zs.map V.str))=H3 at g3 hps3 ⊢
  have hzl:1<=zs.length/\zs.length<=7:=by lia
  refine ⟨_,rfl,_,rfl,_,_,rfl,.inl ⟨_,SqL.of hps3,rfl⟩,l,_,rfl,g3.2,(by rw [List.length_map];lia),(by rw [List.length_map];exact Int.lt_trans (show (zs.length:Int)<100 by lia) (by decide)),fun k H4 k0 k1 hb4=>?_⟩
  rw [List.length_map] at k1
  obtain ⟨k,rfl⟩:=Int.eq_ofNat_of_zero_le k0
  have g4:=g3.trans hb4
  have hps4:=hb4.1 ps _ nps hps3
  refine ⟨(by show 14<=sizeLine;decide),fun pq hpq=>?_⟩
  have npq:pq≠l:=g4.2.ne hpq
  have g4':=g4.trans (Bg.new g4.2 hpq (.lst ([("not" : Str), "and", "or", "odd", "sum", "less", "under", "same", "choice", "up", "down", "join", "cut", "table"].map V.str)))
  have hps4':=(z_c hpq (.lst ([("not" : Str), "and", "or", "odd", "sum", "less", "under", "same", "choice", "up", "down", "join", "cut", "table"].map V.str))) _ _ hps4
  have hpq4:=z_b (H:=H4) (a:=pq) (o:=.lst ([("not" : Str), "and", "or", "odd", "sum", "less", "under", "same", "choice", "up", "down", "join", "cut", "table"].map V.str))
  show tSeq _ _ _ [some (.ref l),some (.int m),some (.ref ps),some (.int (k:Int)),some (.ref pq),none,none,none] (upd H4 pq (.lst ([("not" : Str), "and", "or", "odd", "sum", "less", "under", "same", "choice", "up", "down", "join", "cut", "table"].map V.str)))
  generalize upd H4 pq (.lst ([("not" : Str), "and", "or", "odd", "sum", "less", "under", "same", "choice", "up", "down", "join", "cut", "table"].map V.str))=H4' at g4' hps4' hpq4 ⊢
  refine ⟨(by show 0<=sizeLine;decide),fun pn hpn=>?_⟩
  have npn:pn≠l:=g4'.2.ne hpn
  have hpnH:H pn=none:=by
   cases hh:H pn with
   | none=>rfl
   | some o=>rw [g4'.1 pn o npn hh] at hpn;cases hpn
  have g5:=g4'.trans (Bg.new g4'.2 hpn (.lst []))
  have hps5:=(z_c hpn (.lst [])) _ _ hps4'
  have hpq5:=(z_c hpn (.lst [])) _ _ hpq4
  have hpn5:=z_b (H:=H4') (a:=pn) (o:=.lst [])
  have nspn:ps≠pn:=z_g hps4' hpn
  have nqpn:pq≠pn:=z_g hpq4 hpn
  show tSeq _ _ _ [some (.ref l),some (.int m),some (.ref ps),some (.int (k:Int)),some (.ref pq),some (.ref pn),none,none] (upd H4' pn (.lst []))
  generalize upd H4' pn (.lst [])=H5 at g5 hps5 hpq5 hpn5 ⊢
  have hAl:(Txt.join "" (zs.take k)).length<=7:=by
   rw [join_lenM]
   exact Nat.le_trans (sum_ones fun z hz'=>(hz z (List.mem_of_mem_take hz')).1) (by rw [List.length_take];lia)
  have hBl:(Txt.join "" (zs.drop (k+1))).length<=7:=by
   rw [join_lenM]
   exact Nat.le_trans (sum_ones fun z hz'=>(hz z (List.mem_of_mem_drop hz')).1) (by rw [List.length_drop];lia)
  have s1:(zs.take k |>.map (·.length)).sum<=8:=Nat.le_trans (sum_ones fun z hz'=>(hz z (List.mem_of_mem_take hz')).1) (by rw [List.length_take];lia)
  have s2:(zs.drop (k+1) |>.map (·.length)).sum<=8:=Nat.le_trans (sum_ones fun z hz'=>(hz z (List.mem_of_mem_drop hz')).1) (by rw [List.length_drop];lia)
  have l1:(zs.take k).length<=8:=by rw [List.length_take];lia
  have l2:(zs.drop (k+1)).length<=8:=by rw [List.length_drop];lia
  have okA:=ok_join (us:=zs.take k) fun u hu=>(hz u (List.mem_of_mem_take hu)).2.1
  have dtA:=dot_join (us:=zs.take k) fun u hu=>(hz u (List.mem_of_mem_take hu)).2.2
  have okB:=ok_join (us:=zs.drop (k+1)) fun u hu=>(hz u (List.mem_of_mem_drop hu)).2.1
  have dtB:=dot_join (us:=zs.drop (k+1)) fun u hu=>(hz u (List.mem_of_mem_drop hu)).2.2
  generalize hA:Txt.join "" (zs.take k)=AA at hAl okA dtA
  generalize hB:Txt.join "" (zs.drop (k+1))=BB at hBl okB dtB
  refine ⟨_,rfl,_,rfl,by lia,by lia,x_r (lo:=0) (fun i σ H'=>∃ (z6 z7:Option V),σ=[some (.ref l),some (.int m),some (.ref ps),some (.int (k:Int)),some (.ref pq),some (.ref pn),z6,z7]/\Bg l H H'/\H' ps=some (.lst (zs.map V.str))/\H' pq=some (.lst ([("not" : Str), "and", "or", "odd", "sum", "less", "under", "same", "choice", "up", "down", "join", "cut", "table"].map V.str))/\H' pn=some (.lst (((List.range i).map (nmQ AA BB)).map V.str))) ⟨_,_,rfl,g5,hps5,hpq5,hpn5⟩ ?_ ?_⟩
  ·rintro i σ H' hi ⟨z6,z7,rfl,g,hs',hq',hn'⟩
   have hi24:i<24:=by lia
   have hc:atI letters.cps.toList (0+(i:Int))=some (letters.cps.toList.getD i 0):=by
    rw [Int.zero_add]
    have hl24:letters.cps.toList.length=24:=by decide +kernel
    exact y_c (by rw [List.getD_eq_getElem?_getD,List.getElem?_eq_getElem (by lia)];rfl)
   refine ⟨rfl,_,rfl,_,rfl,_,rfl,ps,_,rfl,SqL.of hs',fun p1 hp1=>?_⟩
   rw [cut_to (by rw [List.length_map];lia),<-List.map_take]
   have t1:=z_c hp1 (.lst ((zs.take k).map V.str))
   refine ⟨"",p1,zs.take k,rfl,rfl,SqL.of z_b,(by show _+_*0<=16777216;lia),?_⟩
   rw [hA]
   refine ⟨_,rfl,_,_,_,rfl,rfl,(by decide),hc,_,_,rfl,rfl,small (by show _+1<=_;lia),?_⟩
   generalize upd H' p1 (.lst ((zs.take k).map V.str))=Ha at t1 ⊢
   refine ⟨rfl,_,rfl,_,rfl,_,_,rfl,rfl,_,rfl,ps,_,rfl,SqL.of (t1 _ _ hs'),fun p2 hp2=>?_⟩
   have hcut:cutV (zs.map V.str) (some ((k:Int)+1)) none=(zs.drop (k+1)).map V.str:=by
    rw [show ((k:Int)+1)=((k+1:Nat):Int) by push_cast;rfl,cut_from (by rw [List.length_map];lia),<-List.map_drop]
   rw [hcut]
   have t2:=t1.trans (z_c hp2 (.lst ((zs.drop (k+1)).map V.str)))
   refine ⟨"",p2,zs.drop (k+1),rfl,rfl,SqL.of z_b,(by show _+_*0<=16777216;lia),?_⟩
   rw [hB]
   refine ⟨_,_,rfl,rfl,small (by rw [Str.length_append];show _+1+_<=_;lia),?_⟩
   have enn:AA++(⟨#[letters.cps.toList.getD i 0]⟩:Str)++BB=nmK AA BB i:=rfl
   rw [enn]
   have nnl:=nmK_len AA BB i
   show tSeq _ _ _ [some (.ref l),some (.int m),some (.ref ps),some (.int (k:Int)),some (.ref pq),some (.ref pn),some (.int (0+(i:Int))),some (.str (nmK AA BB i))] (upd Ha p2 (.lst ((zs.drop (k+1)).map V.str)))
   generalize upd Ha p2 (.lst ((zs.drop (k+1)).map V.str))=Hb at t2 ⊢
   have gb:=g.trans (g.2.same t2)
   have hsb:=t2 _ _ hs'
   have hqb:=t2 _ _ hq'
   have hnb:=t2 _ _ hn'
   refine ⟨_,rfl,.inl ⟨rfl,_,SqL.of hnb⟩,_,rfl,_,rfl,_,rfl,(by show 2<=sizeLine;decide),fun p3 hp3=>?_⟩
   have t3:=z_c hp3 (.lst [.str "wire",.str "number"])
   have f3:=z_b (H:=Hb) (a:=p3) (o:=.lst [.str "wire",.str "number"])
   generalize upd Hb p3 (.lst [.str "wire",.str "number"])=Hc at t3 f3 ⊢
   refine ⟨pq,p3,_,_,rfl,rfl,t3 _ _ hqb,f3,(by show 14+2<=sizeLine;decide),fun p4 hp4=>?_⟩
   have t4:=z_c hp4 (.lst (words16.map V.str))
   have f4:=z_b (H:=Hc) (a:=p4) (o:=.lst (words16.map V.str))
   show rIn _ false _ _ (upd Hc p4 (.lst (words16.map V.str))) _
   generalize upd Hc p4 (.lst (words16.map V.str))=Hd at t4 f4 ⊢
   refine ⟨p4,_,rfl,.inl (SqL.of f4),rfl,rfl,.inr ⟨_,rfl,?_⟩⟩
   have t34:=t3.trans t4
   have einV:inV (V.str (nmK AA BB i)) (words16.map V.str)=decide (nmK AA BB i∈words16):=inV_strs _ _
   have fin:∀ (sfx:Str),sfx=(if nmK AA BB i∈words16 then "q" else "")->sfx.length<=1->∃ z6 z7:Option V,[some (V.ref l),some (.int m),some (.ref ps),some (.int (k:Int)),some (.ref pq),some (.ref pn),some (.int (0+(i:Int))),some (.str (nmK AA BB i))]=[some (.ref l),some (.int m),some (.ref ps),some (.int (k:Int)),some (.ref pq),some (.ref pn),z6,z7]/\Bg l H (upd Hd pn (.lst (((List.range i).map (nmQ AA BB)).map V.str++[V.str (nmK AA BB i++sfx)])))/\(upd Hd pn (.lst (((List.range i).map (nmQ AA BB)).map V.str++[V.str (nmK AA BB i++sfx)]))) ps=some (.lst (zs.map V.str))/\(upd Hd pn (.lst (((List.range i).map (nmQ AA BB)).map V.str++[V.str (nmK AA BB i++sfx)]))) pq=some (.lst ([("not" : Str), "and", "or", "odd", "sum", "less", "under", "same", "choice", "up", "down", "join", "cut", "table"].map V.str))/\(upd Hd pn (.lst (((List.range i).map (nmQ AA BB)).map V.str++[V.str (nmK AA BB i++sfx)]))) pn=some (.lst (((List.range (i+1)).map (nmQ AA BB)).map V.str)):=fun sfx hsf _=>by
    refine ⟨_,_,rfl,(gb.trans (gb.2.same t34)).set hpnH npn _,by rw [z_j nspn];exact t34 _ _ hsb,by rw [z_j nqpn];exact t34 _ _ hqb,?_⟩
    rw [z_b,List.range_succ,List.map_append,List.map_append]
    show _=some (HO.lst (_++[V.str (nmK AA BB i++_)]))
    rw [hsf]
   have hul:(((List.range i).map (nmQ AA BB)).map V.str).length=i:=by rw [List.length_map,List.length_map,List.length_range]
   by_cases hw:nmK AA BB i∈words16
   ·refine ⟨"q",_,rfl,rfl,.inr ⟨by rw [einV,decide_eq_true hw];rfl,?_⟩⟩
    refine ⟨_,_,rfl,rfl,small (by show _+1<=_;lia),pn,_,_,rfl,rfl,t34 _ _ hnb,y_b (by rw [hul];lia),?_⟩
    exact fin "q" (by rw [if_pos hw]) (Nat.le_refl _)
   ·refine ⟨"q",_,rfl,rfl,.inl ⟨by rw [einV,decide_eq_false hw];rfl,?_⟩⟩
    refine ⟨_,_,rfl,rfl,small (by show _+0<=_;lia),pn,_,_,rfl,rfl,t34 _ _ hnb,y_b (by rw [hul];lia),?_⟩
    exact fin "" (by rw [if_neg hw]) (Nat.zero_le _)
  ·rintro σ H' ⟨z6,z7,rfl,g,hs',hq',hn'⟩
   rw [Int.toNat_natCast] at hn'
   refine ⟨_,rfl,q pn _ H' (by rw [List.length_map,List.length_range]) (names_nodup AA BB hm) (fun z hz'=>?_) npn hpnH g hn'⟩
   obtain ⟨j,_,rfl⟩:=List.mem_map.mp hz'
   have:=nmQ_len AA BB j
   exact ⟨⟨by lia,nmQ_ok okA okB j⟩,nmQ_dot dtA dtB j⟩
theorem ok_L_rooms(T:Tx w K mg A)(G_L_take:FnOk P w K mg base CX0 1 A.a_L_take A.d_L_take ["_law_bag_here", "_law_many"] y_v):FnOk P w K mg base CX0 2 A.a_L_rooms A.d_L_rooms ["_law_bag_here", "_law_room", "_law_many"] sp_L_rooms:=by
 refine T.F_L_rooms.ok sc_L_rooms (fun vs H Q E h=>?_) (fun cdv A' outer s H vs Q E hr h=>?_)
 ·obtain ⟨l,room,many,rfl,hb,hm0,hm3,hmr,hroom,q⟩:=h
  rfl
 obtain ⟨l,room,many,rfl,hb,hm0,hm3,hmr,hroom,q⟩:=h
 refine ⟨_,(z_f (z_r (i:=3) sc_L_rooms.nd rfl (Or.inl rfl) (z_o op_sub (pv 1) (pv 2)))
  (z_f (z_r (i:=4) sc_L_rooms.nd rfl (Or.inl rfl) (y_h z_d))
  (z_f (x_e PassesOwn.never rfl (y_o rfl T.range (z_a (pv 2) z_d)) (z_v (i:=5) sc_L_rooms.nd rfl (Or.inl rfl))
    (z_f (z_r (i:=6) sc_L_rooms.nd rfl (Or.inl rfl) (pv 3))
  (z_f (x_a (z_s op_lt (z_o y_k (pv 5) z_e) (pv 2) (nomark _)) (z_i (z_r (i:=6) sc_L_rooms.nd rfl (Or.inl rfl) (z_k G_L_take (hr.mono (by first | decide | lia)) rfl T.M_L_take T.F_L_take.kp T.B_L_take .nil pass0 (z_a (pv 0) (z_a (z_o y_k (pv 3) z_e) z_d))))) y_a)
  (z_f (x_b (pe_bmN PySem.F.plainAttrs_list PySem.F.slot_list_append PySem.F.type_list_append y_u (pv 4) (z_a (z_o y_k z_e (pv 6)) z_d)))
  (z_i (z_r (i:=3) sc_L_rooms.nd rfl (Or.inl rfl) (z_o op_sub (pv 3) (pv 6))))))))
  (z_i (z_z (pv 4)))))),?_⟩
 refine ⟨_,rfl,_,rfl,_,_,rfl,rfl,?_⟩
 refine ⟨(by show 0<=sizeLine;decide),fun p hp=>?_⟩
 have hpl:p≠l:=hb.ne hp
 refine ⟨_,rfl,_,rfl,by lia,by lia,x_r (lo:=0) (fun i σ H'=>∃ (left:Int) (rs:List Int) (x y:Option V),σ=[some (.ref l),some (.int room),some (.int many),some (.int left),some (.ref p),x,y]/\0<=left/\left<=1000/\rs.length=i/\(∀ r∈rs,r<=1001)/\Bg l H H'/\H' p=some (.lst (rs.map V.int))) ⟨_,[],none,none,rfl,by lia,by lia,rfl,(fun _ h=>nomatch h),Bg.new hb hp _,z_b⟩ ?_ ?_⟩
 ·rintro i σ H1 hi ⟨left,rs,x,y,rfl,l0,l1,hrs,hrb,hb1,hp1⟩
  have fin:∀ (more:Int) (H2:Hp),0<=more->more<=left->Bg l H1 H2->∃ (left':Int) (rs':List Int) (x y:Option V),[some (V.ref l),some (.int room),some (.int many),some (.int (left-more)),some (.ref p),some (.int (0+(i:Int))),some (.int more)]=[some (.ref l),some (.int room),some (.int many),some (.int left'),some (.ref p),x,y]/\0<=left'/\left'<=1000/\rs'.length=i+1/\(∀ r∈rs',r<=1001)/\Bg l H (upd H2 p (.lst (rs.map V.int++[.int (1+more)])))/\(upd H2 p (.lst (rs.map V.int++[.int (1+more)]))) p=some (.lst (rs'.map V.int)):=fun more H2 m0 m1 hb2=>by
   refine ⟨_,rs++[1+more],_,_,rfl,by lia,by lia,by rw [List.length_append,hrs];rfl,fun r hr=>?_,(hb1.trans hb2).set hp hpl _,by rw [z_b,List.map_append];rfl⟩
   rcases List.mem_append.mp hr with h | h
   ·exact hrb r h
   ·rw [List.mem_singleton.mp h];lia
  have hlen:∀ H2,Bg l H1 H2->H2 p=some (.lst (rs.map V.int))/\(rs.map V.int).length<sizeLine:=fun H2 hb2=>⟨hb2.1 p _ hpl hp1,by rw [List.length_map];exact y_b (by lia)⟩
  refine ⟨_,rfl,?_⟩
  refine ⟨_,rfl,_,_,rfl,rfl,_,rfl,_,_,rfl,rfl,_,rfl,?_⟩
  refine ite2 (fun c=>?_) (fun c=>?_)
  ·refine ⟨_,rfl,_,rfl,_,_,rfl,rfl,l,_,rfl,hb1.2,by lia,(by show left+1<bigB;exact Int.lt_trans (show left+1<2000 by lia) (by decide)),fun more H2 m0 m1 hb2=>?_⟩
   obtain ⟨hp2,hl2⟩:=hlen H2 hb2
   refine ⟨_,rfl,.inl ⟨rfl,_,SqL.of hp2⟩,_,rfl,_,_,rfl,rfl,p,_,_,rfl,rfl,hp2,hl2,?_⟩
   refine ⟨_,rfl,_,rfl,_,_,rfl,rfl,?_⟩
   exact fin more H2 m0 (by lia) hb2
  ·obtain ⟨hp2,hl2⟩:=hlen H1 (Bg.refl hb1.2)
   refine ⟨_,rfl,.inl ⟨rfl,_,SqL.of hp2⟩,_,rfl,_,_,rfl,rfl,p,_,_,rfl,rfl,hp2,hl2,?_⟩
   refine ⟨_,rfl,_,rfl,_,_,rfl,rfl,?_⟩
   exact fin left H1 l0 (Int.le_refl _) (Bg.refl hb1.2)
 ·rintro σ H1 ⟨left,rs,x,y,rfl,l0,l1,hrs,hrb,hb1,hp1⟩
  exact ⟨_,rfl,q p rs H1 hp hpl hb1 hp1 (by rw [hrs];lia) hrb⟩
theorem ok_L_leaf(T:Tx w K mg A)(G_L_take:FnOk P w K mg base CX0 1 A.a_L_take A.d_L_take ["_law_bag_here", "_law_many"] y_v):FnOk P w K mg base CX0 2 A.a_L_leaf A.d_L_leaf ["_law_bag_here", "_law_widths", "_law_width"] sp_leaf8:=by
 refine T.F_L_leaf.ok sc_L_leaf (fun vs H Q E h=>?_) (fun cdv A' outer s H vs Q E hr h=>?_)
 ·obtain ⟨l,wd,kvs,kv,w',rfl,hb,hwd,kw,gd,w1,w8,q⟩:=h
  rfl
 obtain ⟨l,wd,kvs,kv,w',rfl,hb,hwd,kw,gd,w1,w8,q⟩:=h
 have hu:=hu_of hr
 refine ⟨_,(z_f (ps_frz (ps_comp [1,2] sc_L_leaf.nd (i:=3) rfl (Or.inl rfl) (fun _ _ h=>h) rfl (pi_dict (pv 1)) (fun _ _ _ _=>(pts_one (z_s op_eq (pe_dget hu (pv 1) (pv 0) (fun _ _=>rfl)) (pv 2) (nomark _)))) (fun _ _ _ _=>(pv 0)) rfl (show ∀ j∈([1,2]:List Nat),j<6 by decide) (show (["_law_name", "_law_widths", "_law_width"]:List Str).Nodup by decide +kernel) (by with_unfolding_all rfl)))
  (z_f (ps_thaw rfl (x_a (PW.pt (pw_and (z_s op_gt (z_p y_f rfl T.len PySem.boot_len (z_a (pv 3) z_d)) z_e (nomark _)) (pw_and1 (z_s op_lt (z_k G_L_take (hr.mono (by first | decide | lia)) rfl T.M_L_take T.F_L_take.kp T.B_L_take .nil pass0 (z_a (pv 0) (z_a z_e z_d))) z_e (nomark _))))) (z_i (z_z (y_d (z_a z_t (z_a (z_l z_x (pv 3) (z_k G_L_take (hr.mono (by first | decide | lia)) rfl T.M_L_take T.F_L_take.kp T.B_L_take .nil pass0 (z_a (pv 0) (z_a (z_p y_f rfl T.len PySem.boot_len (z_a (pv 3) z_d)) z_d))) (fun _ _=>rfl)) z_d))))) y_a))
  (z_f (ps_frz (ps_comp [1,2] sc_L_leaf.nd (i:=4) rfl (Or.inl rfl) (fun _ _ h=>h) rfl (pi_dict (pv 1)) (fun _ _ _ _=>(pts_one (z_s op_gt (pe_dget hu (pv 1) (pv 0) (fun _ _=>rfl)) (pv 2) (nomark _)))) (fun _ _ _ _=>(pv 0)) rfl (show ∀ j∈([1,2]:List Nat),j<6 by decide) (show (["_law_name", "_law_widths", "_law_width"]:List Str).Nodup by decide +kernel) (by with_unfolding_all rfl)))
  (z_f (ps_thaw rfl (x_a (PW.pt (pw_and (z_s op_gt (z_p y_f rfl T.len PySem.boot_len (z_a (pv 4) z_d)) z_e (nomark _)) (pw_and1 (z_s op_eq (z_k G_L_take (hr.mono (by first | decide | lia)) rfl T.M_L_take T.F_L_take.kp T.B_L_take .nil pass0 (z_a (pv 0) (z_a z_e z_d))) z_e (nomark _))))) (z_f (z_r (i:=5) sc_L_leaf.nd rfl (Or.inl rfl) (z_l z_x (pv 4) (z_k G_L_take (hr.mono (by first | decide | lia)) rfl T.M_L_take T.F_L_take.kp T.B_L_take .nil pass0 (z_a (pv 0) (z_a (z_p y_f rfl T.len PySem.boot_len (z_a (pv 4) z_d)) z_d))) (fun _ _=>rfl)))
  (z_i (z_z (y_d (z_a z_t (z_a (z_k G_L_take (hr.mono (by first | decide | lia)) rfl T.M_L_take T.F_L_take.kp T.B_L_take .nil pass0 (z_a (pv 0) (z_a (z_o y_k (z_o op_sub (pe_dget hu (pv 1) (pv 5) (fun _ _=>rfl)) (pv 2)) z_e) z_d))) (z_a (pv 2) (z_a (y_d (z_a z_t (z_a (pv 5) z_d))) z_d)))))))) y_a))
  (z_i (z_z (y_d (z_a z_t (z_a (z_k G_L_take (hr.mono (by first | decide | lia)) rfl T.M_L_take T.F_L_take.kp T.B_L_take .nil pass0 (z_a (pv 0) (z_a (z_o op_shl z_e (pv 2)) z_d))) (z_a (pv 2) z_d)))))))))),?_⟩
 have nwd:wd≠l:=fun e=>by obtain ⟨b0,b1,e2,_⟩:=hb;rw [e,e2] at hwd;cases hwd
 have hp2:=pow_pos2 w'.toNat
 have hp3:=pow_le2 (n:=w'.toNat) (by lia)
 have hbig:(1:Int)*2^w'.toNat<bigB:=Int.lt_of_le_of_lt (by rw [Int.one_mul];exact hp3) (by decide)
 have hpos:(0:Int)<1*2^w'.toNat:=by rw [Int.one_mul];exact hp2
 have hkl:=gd.2.2
 refine ⟨wd,kvs,hwd,fun o=>?_⟩
 have k1:∀ b o',b≠wd->H b=some o'->(upd H wd (.frz o (.dK kvs))) b=some o':=fun b o' n e=>by rw [z_j n];exact e
 have f1:=z_b (H:=H) (a:=wd) (o:=.frz o (.dK kvs))
 generalize upd H wd (.frz o (.dK kvs))=Hz at k1 f1 ⊢
 refine ⟨_,rfl,wd,o,kvs,rfl,f1,comp_dict (fun i ys H'=>Hz=H'/\∃ us:List Str,ys=us.map V.str/\us.length<=i/\∀ u∈us,kv u=some w') ⟨rfl,[],rfl,Nat.le_refl _,(fun _ h=>nomatch h)⟩ ?_ ?_ ?_ ?_⟩
 ·rintro i ys H' _ ⟨rfl,_⟩
  exact f1
 ·rintro i ys H' hi ⟨rfl,us,rfl,hu,_⟩
  rw [List.length_map]
  exact y_b (by lia)
 ·rintro i kvp ys H' hx ⟨rfl,us,rfl,hu,huw⟩
  obtain ⟨x,j,e,j1,j8⟩:=gd.1 kvp (List.mem_of_getElem? hx)
  have hv:=gd.2.1 kvp (List.mem_of_getElem? hx)
  subst e
  have hkv:kv x=some j:=by
   have h1:=kw.1 x
   have hv':valV kvs (.inr x)=some (.int j):=hv
   rw [hv'] at h1
   cases hk:kv x with
   | none=>rw [hk] at h1;cases h1
   | some y=>rw [hk] at h1;have:=Option.some.inj h1;injection this with this;rw [this]
  refine ⟨_,rfl,_,rfl,wd,_,rfl,dgetR (.inr ⟨o,f1⟩) hv,_,rfl,rfl,_,rfl,?_⟩
  refine ite2 (fun c=>?_) (fun c=>?_)
  ·have ej:j=w':=by have:=of_decide_eq_true c;injection this
   refine ⟨_,rfl,rfl,us++[x],by rw [List.map_append];rfl,by rw [List.length_append,List.length_singleton];lia,fun u hu'=>?_⟩
   rcases List.mem_append.mp hu' with h | h
   ·exact huw u h
   ·rw [List.mem_singleton.mp h,hkv,ej]
  ·exact ⟨rfl,us,rfl,by lia,huw⟩
 ·rintro ys H' ⟨rfl,us,rfl,hu,huw⟩ ps hps
  have npw:ps≠wd:=(z_g f1 hps).symm
  have hpsH:H ps=none:=by
   cases e:H ps with
   | none=>rfl
   | some o'=>rw [k1 ps o' npw e] at hps;cases hps
  have nps:ps≠l:=hb.ne hpsH
  refine ⟨wd,o,kvs,by rw [z_j npw.symm];exact f1,(fun o' u e=>by have e':H wd=some (.frz o' u):=e;rw [hwd] at e';cases e'),?_⟩
  have sT:Same H (upd (upd Hz ps (.lst (us.map V.str))) wd (.dK kvs)):=thaw_same hwd fun b o' n e=>by rw [z_j (z_g e hpsH)];exact k1 b o' n e
  have fps:(upd (upd Hz ps (.lst (us.map V.str))) wd (.dK kvs)) ps=some (.lst (us.map V.str)):=by rw [z_j npw];exact z_b
  have g1:=hb.same sT
  dsimp only [gName]
  generalize upd (upd Hz ps (.lst (us.map V.str))) wd (.dK kvs)=H1 at sT fps g1 ⊢
  refine ⟨_,rfl,_,_,rfl,.inl ⟨_,SqL.of fps,rfl⟩,_,_,rfl,rfl,_,rfl,?_⟩
  refine ite2 (fun c3=>?_) (fun c3=>?_)
  ·have hpl:(0:Int)<(((us.map V.str).length:Nat):Int):=of_decide_eq_true c3
   rw [List.length_map] at hpl
   refine ⟨_,rfl,l,4,rfl,g1.2,by decide,by decide,fun d H2 d0 d1 hb2=>?_⟩
   have g2:=g1.trans hb2
   have fps2:=hb2.1 _ _ nps fps
   refine ⟨_,_,rfl,rfl,_,rfl,?_⟩
   refine ite2 (fun c4=>?_) (fun c4=>?_)
   ·refine ⟨_,rfl,_,rfl,_,rfl,_,_,rfl,.inl ⟨_,SqL.of fps2,rfl⟩,l,_,rfl,g2.2,(by rw [List.length_map];exact hpl),(by rw [List.length_map];exact Int.lt_trans (show (us.length:Int)<100 by lia) (by decide)),fun e H3 e0 e1 hb3=>?_⟩
    rw [List.length_map] at e1
    obtain ⟨e,rfl⟩:=Int.eq_ofNat_of_zero_le e0
    have he:e<us.length:=by lia
    refine ⟨ps,_,_,_,rfl,rfl,SqL.of (hb3.1 _ _ nps fps2),y_c (show (us.map V.str)[e]? = some (.str us[e]) by rw [List.getElem?_map,List.getElem?_eq_getElem he];rfl),(by show 2<=sizeLine;decide),fun p5 hp5=>?_⟩
    exact q _ _ _ ⟨⟨w1,w8⟩,.inl ⟨us[e],rfl,huw _ (List.getElem_mem he)⟩⟩ (Dat.tup z_b (.cons (Dat.str _) (.cons (Dat.str _) .nil))) ((g2.trans hb3).trans (Bg.new hb3.2 hp5 _))
   ·clear huw hu
    have hwdG:=g2.1 _ _ nwd hwd
    refine ⟨wd,kvs,hwdG,fun o2=>?_⟩
    have k2:∀ b o',b≠wd->H2 b=some o'->(upd H2 wd (.frz o2 (.dK kvs))) b=some o':=fun b o' n e=>by rw [z_j n];exact e
    have f2:=z_b (H:=H2) (a:=wd) (o:=.frz o2 (.dK kvs))
    generalize upd H2 wd (.frz o2 (.dK kvs))=Hf at k2 f2 ⊢
    refine ⟨_,rfl,wd,o2,kvs,rfl,f2,comp_dict (fun i ys H'=>Hf=H'/\∃ us:List (Str×Int),ys=(us.map Prod.fst).map V.str/\us.length<=i/\∀ u∈us,kv u.1=some u.2/\w'<u.2/\u.2<=8) ⟨rfl,[],rfl,Nat.le_refl _,(fun _ h=>nomatch h)⟩ ?_ ?_ ?_ ?_⟩
    ·rintro i ys H' _ ⟨rfl,_⟩
     exact f2
    ·rintro i ys H' hi ⟨rfl,us,rfl,hu,_⟩
     rw [List.length_map,List.length_map]
     exact y_b (by lia)
    ·rintro i kvp ys H' hx ⟨rfl,us,rfl,hu,huw⟩
     obtain ⟨x,j,e,j1,j8⟩:=gd.1 kvp (List.mem_of_getElem? hx)
     have hv:=gd.2.1 kvp (List.mem_of_getElem? hx)
     subst e
     have hkv:kv x=some j:=by
      have h1:=kw.1 x
      have hv':valV kvs (.inr x)=some (.int j):=hv
      rw [hv'] at h1
      cases hk:kv x with
      | none=>rw [hk] at h1;cases h1
      | some y=>rw [hk] at h1;have:=Option.some.inj h1;injection this with this;rw [this]
     refine ⟨_,rfl,_,rfl,wd,_,rfl,dgetR (.inr ⟨o2,f2⟩) hv,_,rfl,_,_,rfl,rfl,_,rfl,?_⟩
     refine ite2 (fun c=>?_) (fun c=>?_)
     ·have ej:w'<j:=of_decide_eq_true c
      refine ⟨_,rfl,rfl,us++[(x,j)],by rw [List.map_append,List.map_append];rfl,by rw [List.length_append,List.length_singleton];lia,fun u hu'=>?_⟩
      rcases List.mem_append.mp hu' with h | h
      ·exact huw u h
      ·rw [List.mem_singleton.mp h]
       exact ⟨hkv,ej,j8⟩
     ·exact ⟨rfl,us,rfl,by lia,huw⟩
    rintro ys H' ⟨rfl,us,rfl,hu,huw⟩ pv hpv
    have npv:pv≠wd:=(z_g f2 hpv).symm
    have hpvJ:H2 pv=none:=by
     cases e:H2 pv with
     | none=>rfl
     | some o'=>rw [k2 pv o' npv e] at hpv;cases hpv
    have npl:pv≠l:=g2.2.ne hpvJ
    refine ⟨wd,o2,kvs,by rw [z_j npv.symm];exact f2,(fun o' u e=>by have e':H wd=some (.frz o' u):=e;rw [hwd] at e';cases e'),?_⟩
    have sT:Same H2 (upd (upd Hf pv (.lst ((us.map Prod.fst).map V.str))) wd (.dK kvs)):=thaw_same hwdG fun b o' n e=>by rw [z_j (z_g e hpvJ)];exact k2 b o' n e
    have fv:(upd (upd Hf pv (.lst ((us.map Prod.fst).map V.str))) wd (.dK kvs)) pv=some (.lst ((us.map Prod.fst).map V.str)):=by rw [z_j npv];exact z_b
    have gT:=g2.trans (g2.2.same sT)
    dsimp only [gName]
    generalize upd (upd Hf pv (.lst ((us.map Prod.fst).map V.str))) wd (.dK kvs)=Jt at sT fv gT ⊢
    refine ⟨_,rfl,_,_,rfl,.inl ⟨_,SqL.of fv,rfl⟩,_,_,rfl,rfl,_,rfl,?_⟩
    refine ite2 (fun c5=>?_) (fun c5=>?_)
    ·have hpl:(0:Int)<(((((us.map Prod.fst).map V.str).length:Nat)):Int):=of_decide_eq_true c5
     rw [List.length_map,List.length_map] at hpl
     refine ⟨_,rfl,l,2,rfl,gT.2,by decide,by decide,fun d H2 d0 d1 hb2=>?_⟩
     have g2:=gT.trans hb2
     have fv2:=hb2.1 _ _ npl fv
     refine ⟨rfl,_,rfl,?_⟩
     refine ite2 (fun c6=>?_) (fun c6=>?_)
     ·refine ⟨_,rfl,_,rfl,_,rfl,_,_,rfl,.inl ⟨_,SqL.of fv2,rfl⟩,l,_,rfl,g2.2,(by rw [List.length_map,List.length_map];exact hpl),(by rw [List.length_map,List.length_map];exact Int.lt_trans (show (us.length:Int)<100 by lia) (by decide)),fun e H3 e0 e1 hb3=>?_⟩
      rw [List.length_map,List.length_map] at e1
      obtain ⟨e,rfl⟩:=Int.eq_ofNat_of_zero_le e0
      have he:e<us.length:=by lia
      have g3:=g2.trans hb3
      obtain ⟨u1,u2,u3⟩:=huw us[e] (List.getElem_mem he)
      refine ⟨pv,_,_,_,rfl,rfl,SqL.of (hb3.1 _ _ npl fv2),y_c (show ((us.map Prod.fst).map V.str)[e]? = some (.str us[e].1) by rw [List.getElem?_map,List.getElem?_map,List.getElem?_eq_getElem he];rfl),?_⟩
      generalize us[e]=ue at u1 u2 u3 ⊢
      have ev:valV kvs (.inr ue.1)=some (.int ue.2):=by rw [kw.1,u1];rfl
      refine ⟨_,rfl,_,rfl,_,rfl,wd,_,rfl,dget (g3.1 _ _ nwd hwd) ev,_,rfl,_,_,rfl,rfl,_,_,rfl,rfl,l,_,rfl,g3.2,(by show (0:Int)<ue.2-w'+1;lia),(by show ue.2-w'+1<bigB;exact Int.lt_trans (show ue.2-w'+1<100 by lia) (by decide)),fun f H4 f0 f1 hb4=>?_⟩
      have f1':f<ue.2-w'+1:=f1
      refine ⟨_,rfl,_,rfl,(by show 2<=sizeLine;decide),fun p6 hp6=>?_⟩
      have t6:=z_c hp6 (.tup [.str "wire",.str ue.1])
      have f6:=z_b (H:=H4) (a:=p6) (o:=.tup [.str "wire",.str ue.1])
      have g6:=hb4.trans (Bg.new hb4.2 hp6 (.tup [.str "wire",.str ue.1]))
      generalize upd H4 p6 (.tup [.str "wire",.str ue.1])=H6 at t6 f6 g6 ⊢
      refine ⟨(by show 4<=sizeLine;decide),fun p7 hp7=>?_⟩
      have t7:=z_c hp7 (.tup [.str "cut",.int f,.int w',.ref p6])
      refine q _ _ _ ⟨⟨w1,w8⟩,.inr (.inr ⟨"cut",[.int f,.int w'],[wireD ue.1],[ue.2],rfl,Et.cut f w' ue.2 f0 (by lia) (by lia),rfl,fun a ha=>by rw [List.mem_singleton.mp ha];lia,fun i s hi=>?_⟩)⟩ (Dat.tup z_b (.cons (Dat.str _) (.cons (Dat.int _) (.cons (Dat.int _) (.cons (Dat.tup (t7 _ _ f6) (.cons (Dat.str _) (.cons (Dat.str _) .nil))) .nil))))) ((g3.trans g6).trans (Bg.new g6.2 hp7 _))
      cases i with
      | zero=>cases hi;exact ⟨_,rfl,⟨by lia,by lia⟩,.inl ⟨_,rfl,u1⟩⟩
      | succ i=>simp at hi
     ·refine ⟨_,rfl,_,rfl,_,_,rfl,rfl,⟨by lia,by lia,by decide⟩,l,_,rfl,g2.2,hpos,hbig,fun e H3 e0 e1 hb3=>?_⟩
      refine ⟨_,rfl,(by show 3<=sizeLine;decide),fun p5 hp5=>?_⟩
      rw [Int.one_mul] at e1
      exact q _ _ _ ⟨⟨w1,w8⟩,.inr (.inl ⟨e,rfl,e0,e1⟩)⟩ (Dat.tup z_b (.cons (Dat.str _) (.cons (Dat.int _) (.cons (Dat.int _) .nil)))) ((g2.trans hb3).trans (Bg.new hb3.2 hp5 _))
    ·refine iteF ?_
     refine ⟨_,rfl,_,rfl,_,_,rfl,rfl,⟨by lia,by lia,by decide⟩,l,_,rfl,gT.2,hpos,hbig,fun e H3 e0 e1 hb3=>?_⟩
     refine ⟨_,rfl,(by show 3<=sizeLine;decide),fun p5 hp5=>?_⟩
     rw [Int.one_mul] at e1
     exact q _ _ _ ⟨⟨w1,w8⟩,.inr (.inl ⟨e,rfl,e0,e1⟩)⟩ (Dat.tup z_b (.cons (Dat.str _) (.cons (Dat.int _) (.cons (Dat.int _) .nil)))) ((gT.trans hb3).trans (Bg.new hb3.2 hp5 _))
  ·refine iteF ?_
   clear huw hu
   have hwdG:=g1.1 _ _ nwd hwd
   refine ⟨wd,kvs,hwdG,fun o2=>?_⟩
   have k2:∀ b o',b≠wd->H1 b=some o'->(upd H1 wd (.frz o2 (.dK kvs))) b=some o':=fun b o' n e=>by rw [z_j n];exact e
   have f2:=z_b (H:=H1) (a:=wd) (o:=.frz o2 (.dK kvs))
   generalize upd H1 wd (.frz o2 (.dK kvs))=Hf at k2 f2 ⊢
   refine ⟨_,rfl,wd,o2,kvs,rfl,f2,comp_dict (fun i ys H'=>Hf=H'/\∃ us:List (Str×Int),ys=(us.map Prod.fst).map V.str/\us.length<=i/\∀ u∈us,kv u.1=some u.2/\w'<u.2/\u.2<=8) ⟨rfl,[],rfl,Nat.le_refl _,(fun _ h=>nomatch h)⟩ ?_ ?_ ?_ ?_⟩
   ·rintro i ys H' _ ⟨rfl,_⟩
    exact f2
   ·rintro i ys H' hi ⟨rfl,us,rfl,hu,_⟩
    rw [List.length_map,List.length_map]
    exact y_b (by lia)
   ·rintro i kvp ys H' hx ⟨rfl,us,rfl,hu,huw⟩
    obtain ⟨x,j,e,j1,j8⟩:=gd.1 kvp (List.mem_of_getElem? hx)
    have hv:=gd.2.1 kvp (List.mem_of_getElem? hx)
    subst e
    have hkv:kv x=some j:=by
     have h1:=kw.1 x
     have hv':valV kvs (.inr x)=some (.int j):=hv
     rw [hv'] at h1
     cases hk:kv x with
     | none=>rw [hk] at h1;cases h1
     | some y=>rw [hk] at h1;have:=Option.some.inj h1;injection this with this;rw [this]
    refine ⟨_,rfl,_,rfl,wd,_,rfl,dgetR (.inr ⟨o2,f2⟩) hv,_,rfl,_,_,rfl,rfl,_,rfl,?_⟩
    refine ite2 (fun c=>?_) (fun c=>?_)
    ·have ej:w'<j:=of_decide_eq_true c
     refine ⟨_,rfl,rfl,us++[(x,j)],by rw [List.map_append,List.map_append];rfl,by rw [List.length_append,List.length_singleton];lia,fun u hu'=>?_⟩
     rcases List.mem_append.mp hu' with h | h
     ·exact huw u h
     ·rw [List.mem_singleton.mp h]
      exact ⟨hkv,ej,j8⟩
    ·exact ⟨rfl,us,rfl,by lia,huw⟩
   rintro ys H' ⟨rfl,us,rfl,hu,huw⟩ pv hpv
   have npv:pv≠wd:=(z_g f2 hpv).symm
   have hpvJ:H1 pv=none:=by
    cases e:H1 pv with
    | none=>rfl
    | some o'=>rw [k2 pv o' npv e] at hpv;cases hpv
   have npl:pv≠l:=g1.2.ne hpvJ
   refine ⟨wd,o2,kvs,by rw [z_j npv.symm];exact f2,(fun o' u e=>by have e':H wd=some (.frz o' u):=e;rw [hwd] at e';cases e'),?_⟩
   have sT:Same H1 (upd (upd Hf pv (.lst ((us.map Prod.fst).map V.str))) wd (.dK kvs)):=thaw_same hwdG fun b o' n e=>by rw [z_j (z_g e hpvJ)];exact k2 b o' n e
   have fv:(upd (upd Hf pv (.lst ((us.map Prod.fst).map V.str))) wd (.dK kvs)) pv=some (.lst ((us.map Prod.fst).map V.str)):=by rw [z_j npv];exact z_b
   have gT:=g1.trans (g1.2.same sT)
   dsimp only [gName]
   generalize upd (upd Hf pv (.lst ((us.map Prod.fst).map V.str))) wd (.dK kvs)=Jt at sT fv gT ⊢
   refine ⟨_,rfl,_,_,rfl,.inl ⟨_,SqL.of fv,rfl⟩,_,_,rfl,rfl,_,rfl,?_⟩
   refine ite2 (fun c5=>?_) (fun c5=>?_)
   ·have hpl:(0:Int)<(((((us.map Prod.fst).map V.str).length:Nat)):Int):=of_decide_eq_true c5
    rw [List.length_map,List.length_map] at hpl
    refine ⟨_,rfl,l,2,rfl,gT.2,by decide,by decide,fun d H2 d0 d1 hb2=>?_⟩
    have g2:=gT.trans hb2
    have fv2:=hb2.1 _ _ npl fv
    refine ⟨rfl,_,rfl,?_⟩
    refine ite2 (fun c6=>?_) (fun c6=>?_)
    ·refine ⟨_,rfl,_,rfl,_,rfl,_,_,rfl,.inl ⟨_,SqL.of fv2,rfl⟩,l,_,rfl,g2.2,(by rw [List.length_map,List.length_map];exact hpl),(by rw [List.length_map,List.length_map];exact Int.lt_trans (show (us.length:Int)<100 by lia) (by decide)),fun e H3 e0 e1 hb3=>?_⟩
     rw [List.length_map,List.length_map] at e1
     obtain ⟨e,rfl⟩:=Int.eq_ofNat_of_zero_le e0
     have he:e<us.length:=by lia
     have g3:=g2.trans hb3
     obtain ⟨u1,u2,u3⟩:=huw us[e] (List.getElem_mem he)
     refine ⟨pv,_,_,_,rfl,rfl,SqL.of (hb3.1 _ _ npl fv2),y_c (show ((us.map Prod.fst).map V.str)[e]? = some (.str us[e].1) by rw [List.getElem?_map,List.getElem?_map,List.getElem?_eq_getElem he];rfl),?_⟩
     generalize us[e]=ue at u1 u2 u3 ⊢
     have ev:valV kvs (.inr ue.1)=some (.int ue.2):=by rw [kw.1,u1];rfl
     refine ⟨_,rfl,_,rfl,_,rfl,wd,_,rfl,dget (g3.1 _ _ nwd hwd) ev,_,rfl,_,_,rfl,rfl,_,_,rfl,rfl,l,_,rfl,g3.2,(by show (0:Int)<ue.2-w'+1;lia),(by show ue.2-w'+1<bigB;exact Int.lt_trans (show ue.2-w'+1<100 by lia) (by decide)),fun f H4 f0 f1 hb4=>?_⟩
     have f1':f<ue.2-w'+1:=f1
     refine ⟨_,rfl,_,rfl,(by show 2<=sizeLine;decide),fun p6 hp6=>?_⟩
     have t6:=z_c hp6 (.tup [.str "wire",.str ue.1])
     have f6:=z_b (H:=H4) (a:=p6) (o:=.tup [.str "wire",.str ue.1])
     have g6:=hb4.trans (Bg.new hb4.2 hp6 (.tup [.str "wire",.str ue.1]))
     generalize upd H4 p6 (.tup [.str "wire",.str ue.1])=H6 at t6 f6 g6 ⊢
     refine ⟨(by show 4<=sizeLine;decide),fun p7 hp7=>?_⟩
     have t7:=z_c hp7 (.tup [.str "cut",.int f,.int w',.ref p6])
     refine q _ _ _ ⟨⟨w1,w8⟩,.inr (.inr ⟨"cut",[.int f,.int w'],[wireD ue.1],[ue.2],rfl,Et.cut f w' ue.2 f0 (by lia) (by lia),rfl,fun a ha=>by rw [List.mem_singleton.mp ha];lia,fun i s hi=>?_⟩)⟩ (Dat.tup z_b (.cons (Dat.str _) (.cons (Dat.int _) (.cons (Dat.int _) (.cons (Dat.tup (t7 _ _ f6) (.cons (Dat.str _) (.cons (Dat.str _) .nil))) .nil))))) ((g3.trans g6).trans (Bg.new g6.2 hp7 _))
     cases i with
     | zero=>cases hi;exact ⟨_,rfl,⟨by lia,by lia⟩,.inl ⟨_,rfl,u1⟩⟩
     | succ i=>simp at hi
    ·refine ⟨_,rfl,_,rfl,_,_,rfl,rfl,⟨by lia,by lia,by decide⟩,l,_,rfl,g2.2,hpos,hbig,fun e H3 e0 e1 hb3=>?_⟩
     refine ⟨_,rfl,(by show 3<=sizeLine;decide),fun p5 hp5=>?_⟩
     rw [Int.one_mul] at e1
     exact q _ _ _ ⟨⟨w1,w8⟩,.inr (.inl ⟨e,rfl,e0,e1⟩)⟩ (Dat.tup z_b (.cons (Dat.str _) (.cons (Dat.int _) (.cons (Dat.int _) .nil)))) ((g2.trans hb3).trans (Bg.new hb3.2 hp5 _))
   ·refine iteF ?_
    refine ⟨_,rfl,_,rfl,_,_,rfl,rfl,⟨by lia,by lia,by decide⟩,l,_,rfl,gT.2,hpos,hbig,fun e H3 e0 e1 hb3=>?_⟩
    refine ⟨_,rfl,(by show 3<=sizeLine;decide),fun p5 hp5=>?_⟩
    rw [Int.one_mul] at e1
    exact q _ _ _ ⟨⟨w1,w8⟩,.inr (.inl ⟨e,rfl,e0,e1⟩)⟩ (Dat.tup z_b (.cons (Dat.str _) (.cons (Dat.int _) (.cons (Dat.int _) .nil)))) ((gT.trans hb3).trans (Bg.new hb3.2 hp5 _))
theorem ok_L_wants(T:Tx w K mg A)(G_L_take:FnOk P w K mg base CX0 1 A.a_L_take A.d_L_take ["_law_bag_here", "_law_many"] y_v):FnOk P w K mg base CX0 2 A.a_L_wants A.d_L_wants ["_law_bag_here", "_law_word", "_law_width"] sp_L_wants:=by
 refine T.F_L_wants.ok sc_L_wants (fun vs H Q E h=>?_) (fun cdv A' outer s H vs Q E hr h=>?_)
 ·obtain ⟨l,z,w',rfl,hb,w1,w8,okw,q⟩:=h
  rfl
 obtain ⟨l,z,w',rfl,hb,w1,w8,okw,q⟩:=h
 refine ⟨_,(z_f (x_a (z_s op_eq (pv 1) z_t (nomark _)) (z_i (z_z (y_h (z_a z_e (z_a (pv 2) (z_a (pv 2) z_d)))))) y_a)
  (z_f (x_a (PW.pt (pw_or (z_s op_eq (pv 1) z_t (nomark _)) (pw_or1 (z_s op_eq (pv 1) z_t (nomark _))))) (z_i (z_z (z_o op_rep (y_h (z_a (z_o y_k z_e (z_k G_L_take (hr.mono (by first | decide | lia)) rfl T.M_L_take T.F_L_take.kp T.B_L_take .nil pass0 (z_a (pv 0) (z_a z_e z_d)))) z_d)) z_e))) y_a)
  (z_f (x_a (z_s op_eq (pv 1) z_t (nomark _)) (z_f (z_r (i:=3) sc_L_wants.nd rfl (Or.inl rfl) (z_o y_k z_e (z_k G_L_take (hr.mono (by first | decide | lia)) rfl T.M_L_take T.F_L_take.kp T.B_L_take .nil pass0 (z_a (pv 0) (z_a (z_o op_sub (pv 2) z_e) z_d)))))
  (z_i (z_z (y_h (z_a (pv 3) (z_a (z_o op_sub (pv 2) (pv 3)) z_d)))))) y_a)
  (z_f (x_a (z_s op_eq (pv 1) z_t (nomark _)) (z_i (z_z (y_h (z_a (z_o y_k (pv 2) (z_k G_L_take (hr.mono (by first | decide | lia)) rfl T.M_L_take T.F_L_take.kp T.B_L_take .nil pass0 (z_a (pv 0) (z_a (z_o op_sub z_e (pv 2)) z_d)))) z_d)))) y_a)
  (z_f (x_a (z_s op_eq (pv 1) z_t (nomark _)) (z_i (z_z (y_h (z_a (z_o y_k z_e (z_k G_L_take (hr.mono (by first | decide | lia)) rfl T.M_L_take T.F_L_take.kp T.B_L_take .nil pass0 (z_a (pv 0) (z_a z_e z_d)))) z_d)))) y_a)
  (z_f (x_a (z_s op_in_seq0 (pv 1) (y_h (pa_consts rfl)) rfl) (z_i (z_z (y_h (z_a (pv 2) z_d)))) y_a)
  (z_i (z_z (y_h (z_a (pv 2) (z_a (pv 2) z_d))))))))))),?_⟩
 have okw1:z = "under" \/ z = "same" -> w'=1:=fun h=>by
  rcases okw with o | o | o
  ·rcases h with rfl | rfl<;>exact absurd o (by decide)
  ·exact o.2
  ·rcases h with rfl | rfl<;>exact absurd o.1 (by decide)
 refine ⟨_,rfl,rfl,_,rfl,?_⟩
 refine ite2 (fun c=>?_) (fun c=>?_)
 ·have hz:z = "choice" := by have:=of_decide_eq_true c;injection this
  refine ⟨_,rfl,_,rfl,(by show 3<=sizeLine;decide),fun p hp=>?_⟩
  exact q p [1,w',w'] _ hp (hb.ne hp) (Bg.new hb hp _) z_b (by rw [hz];exact .choice)
 have nz1:z ≠ "choice" := fun h=>by rw [h] at c;exact absurd c (by decide)
 refine ⟨_,rfl,rfl,_,rfl,?_⟩
 refine ite2 (fun c2=>?_) (fun c2=>?_)
 ·have hz:z = "under" := by have:=of_decide_eq_true c2;injection this
  refine iteT ?_
  refine ⟨_,rfl,l,8,rfl,hb,by decide,by decide,fun d H1 d0 d1 hb1=>?_⟩
  refine ⟨_,_,rfl,rfl,(by show 1<=sizeLine;decide),fun p1 hp1=>?_⟩
  have g1:=hb1.trans (Bg.new hb1.2 hp1 (.lst [.int (1+d)]))
  have f1:=z_b (H:=H1) (a:=p1) (o:=.lst [.int (1+d)])
  refine ⟨p1,_,_,rfl,rfl,f1,by decide,by decide,(by show 2<=sizeLine;decide),fun p hp=>?_⟩
  exact q p [1+d,1+d] _ (bgFree g1 hp).2 (bgFree g1 hp).1 (g1.trans (Bg.new g1.2 hp _)) z_b (by rw [hz];exact Wt.under (1+d) (by lia) (by lia) (okw1 (.inl hz)))
 have nz2:z ≠ "under" := fun h=>by rw [h] at c2;exact absurd c2 (by decide)
 refine ⟨_,rfl,rfl,_,rfl,?_⟩
 refine ite2 (fun c3=>?_) (fun c3=>?_)
 ·have hz:z = "same" := by have:=of_decide_eq_true c3;injection this
  refine ⟨_,rfl,l,8,rfl,hb,by decide,by decide,fun d H1 d0 d1 hb1=>?_⟩
  refine ⟨_,_,rfl,rfl,(by show 1<=sizeLine;decide),fun p1 hp1=>?_⟩
  have g1:=hb1.trans (Bg.new hb1.2 hp1 (.lst [.int (1+d)]))
  have f1:=z_b (H:=H1) (a:=p1) (o:=.lst [.int (1+d)])
  refine ⟨p1,_,_,rfl,rfl,f1,by decide,by decide,(by show 2<=sizeLine;decide),fun p hp=>?_⟩
  exact q p [1+d,1+d] _ (bgFree g1 hp).2 (bgFree g1 hp).1 (g1.trans (Bg.new g1.2 hp _)) z_b (by rw [hz];exact Wt.same (1+d) (by lia) (by lia) (okw1 (.inr hz)))
 have nz3:z ≠ "same" := fun h=>by rw [h] at c3;exact absurd c3 (by decide)
 refine ⟨_,rfl,rfl,_,rfl,?_⟩
 refine ite2 (fun c4=>?_) (fun c4=>?_)
 ·have hz:z = "join" := by have:=of_decide_eq_true c4;injection this
  have w2:2<=w':=by
   rcases okw with o | o | o
   ·rw [hz] at o;exact absurd o (by decide)
   ·rcases o.1 with h | h<;>(rw [hz] at h;exact absurd h (by decide))
   ·have:=o.2;lia
  refine ⟨_,rfl,_,rfl,_,_,rfl,rfl,l,_,rfl,hb,(by show (0:Int)<w'-1;lia),(by show (w'-1:Int)<bigB;exact Int.lt_trans (show (w'-1:Int)<100 by lia) (by decide)),fun d H1 d0 d1 hb1=>?_⟩
  have d2:d<w'-1:=d1
  refine ⟨_,_,rfl,rfl,?_⟩
  refine ⟨_,rfl,_,rfl,_,rfl,_,_,rfl,rfl,(by show 2<=sizeLine;decide),fun p hp=>?_⟩
  exact q p [1+d,w'-(1+d)] _ (bgFree hb1 hp).2 (bgFree hb1 hp).1 (hb1.trans (Bg.new hb1.2 hp _)) z_b (by rw [hz];exact .join (1+d) (by lia) (by lia))
 have nz4:z ≠ "join" := fun h=>by rw [h] at c4;exact absurd c4 (by decide)
 refine ⟨_,rfl,rfl,_,rfl,?_⟩
 refine ite2 (fun c5=>?_) (fun c5=>?_)
 ·have hz:z = "cut" := by have:=of_decide_eq_true c5;injection this
  refine ⟨_,rfl,_,rfl,_,rfl,_,_,rfl,rfl,l,_,rfl,hb,(by show (0:Int)<9-w';lia),(by show (9-w':Int)<bigB;exact Int.lt_trans (show (9-w':Int)<100 by lia) (by decide)),fun d H1 d0 d1 hb1=>?_⟩
  have d2:d<9-w':=d1
  refine ⟨_,_,rfl,rfl,(by show 1<=sizeLine;decide),fun p hp=>?_⟩
  exact q p [w'+d] _ (bgFree hb1 hp).2 (bgFree hb1 hp).1 (hb1.trans (Bg.new hb1.2 hp _)) z_b (by rw [hz];exact .cut (w'+d) (by lia) (by lia))
 have nz5:z ≠ "cut" := fun h=>by rw [h] at c5;exact absurd c5 (by decide)
 refine ⟨_,rfl,rfl,_,rfl,?_⟩
 refine ite2 (fun c6=>?_) (fun c6=>?_)
 ·have hz:z = "table" := by have:=of_decide_eq_true c6;injection this
  refine ⟨_,rfl,l,4,rfl,hb,by decide,by decide,fun d H1 d0 d1 hb1=>?_⟩
  refine ⟨_,_,rfl,rfl,(by show 1<=sizeLine;decide),fun p hp=>?_⟩
  exact q p [1+d] _ (bgFree hb1 hp).2 (bgFree hb1 hp).1 (hb1.trans (Bg.new hb1.2 hp _)) z_b (by rw [hz];exact .table (1+d) (by lia) (by lia))
 have nz6:z ≠ "table" := fun h=>by rw [h] at c6;exact absurd c6 (by decide)
 refine ⟨_,rfl,(by show 3<=sizeLine;decide),fun p1 hp1=>?_⟩
 have g1:=Bg.new hb hp1 (.lst [.str "not",.str "up",.str "down"])
 refine ⟨p1,_,rfl,.inl (SqL.of z_b),rfl,rfl,_,rfl,?_⟩
 generalize upd H p1 (.lst [.str "not",.str "up",.str "down"])=H1 at g1 ⊢
 refine ite2 (fun c7=>?_) (fun c7=>?_)
 ·have hz:z = "not" \/ z = "up" \/ z = "down" := inStr3 c7
  refine ⟨_,rfl,(by show 1<=sizeLine;decide),fun p hp=>?_⟩
  exact q p [w'] _ (bgFree g1 hp).2 (bgFree g1 hp).1 (g1.trans (Bg.new g1.2 hp _)) z_b (by rcases hz with rfl | rfl | rfl;exact .not;exact .up;exact .down)
 ·refine ⟨_,rfl,_,rfl,(by show 2<=sizeLine;decide),fun p hp=>?_⟩
  have hno:z ≠ "not" /\ z ≠ "up" /\ z ≠ "down" := notStr3 (Bool.eq_false_iff.mpr c7)
  refine q p [w',w'] _ (bgFree g1 hp).2 (bgFree g1 hp).1 (g1.trans (Bg.new g1.2 hp _)) z_b ?_
  rcases okw with o | o | o
  ·simp only [List.mem_cons,List.not_mem_nil,or_false] at o
   rcases o with h | h | h | h | h | h | h | h | h | h | h
   ·exact absurd h hno.1
   ·rw [h];exact .and
   ·rw [h];exact .or
   ·rw [h];exact .odd
   ·rw [h];exact .sum
   ·rw [h];exact .less
   ·exact absurd h hno.2.1
   ·exact absurd h hno.2.2
   ·exact absurd h nz5
   ·exact absurd h nz6
   ·exact absurd h nz1
  ·rcases o.1 with h | h
   ·exact absurd h nz2
   ·exact absurd h nz3
  ·exact absurd o.1 nz4
theorem ok_L_typed(T:Tx w K mg A)(G_L_take:FnOk P w K mg base CX0 1 A.a_L_take A.d_L_take ["_law_bag_here", "_law_many"] y_v)(G_L_leaf:FnOk P w K mg base CX0 2 A.a_L_leaf A.d_L_leaf ["_law_bag_here", "_law_widths", "_law_width"] sp_leaf8)(G_L_wants:FnOk P w K mg base CX0 2 A.a_L_wants A.d_L_wants ["_law_bag_here", "_law_word", "_law_width"] sp_L_wants)(G_L_rooms:FnOk P w K mg base CX0 2 A.a_L_rooms A.d_L_rooms ["_law_bag_here", "_law_room", "_law_many"] sp_L_rooms)(n:Nat)(G_L_typed:FnOk P w K mg base CX0 (n+2) A.a_L_typed A.d_L_typed ["_law_bag_here", "_law_widths", "_law_width", "_law_deep", "_law_room"] (sp_typed8 n)):FnOk P w K mg base CX0 (n+3) A.a_L_typed A.d_L_typed ["_law_bag_here", "_law_widths", "_law_width", "_law_deep", "_law_room"] (sp_typed8 (n+1)):=by
 refine T.F_L_typed.ok sc_L_typed (fun vs H Q E h=>?_) (fun cdv A' outer s H vs Q E hr h=>?_)
 ·obtain ⟨l,wd,kvs,kv,w0,room,rfl,n1,hb,hwd,kw,gd,w1,w8,hroom,q⟩:=h
  rfl
 obtain ⟨l,wd,kvs,kv,w0,room,rfl,n1,hb,hwd,kw,gd,w1,w8,hroom,q⟩:=h
 have hu:=hu_of hr
 conv in (z_m _)=>whnf
 simp only [bigL_eq,bigT_eq]
 refine ⟨_,(z_f (z_r (i:=5) sc_L_typed.nd rfl (Or.inl rfl) (pe_bigL rfl) (by unfold bigL;rfl))
  (z_f (z_r (i:=5) sc_L_typed.nd rfl (Or.inl rfl) (z_o op_cat (pv 5) (z_l z_x (y_h (z_a (y_h (z_a z_t z_d)) (z_a (y_h (z_a z_t (z_a z_t z_d))) z_d))) (y_g call_int1 rfl T.int PyProof.Rows.boot_int (z_a (pe_cmpR op_eq (pv 2) z_e (nomark _)) z_d)) (fun _ _=>rfl))))
  (z_f (z_r (i:=6) sc_L_typed.nd rfl (Or.inl rfl) (z_l z_x (pv 5) (z_k G_L_take (hr.mono (by first | decide | lia)) rfl T.M_L_take T.F_L_take.kp T.B_L_take .nil pass0 (z_a (pv 0) (z_a (z_p y_f rfl T.len PySem.boot_len (z_a (pv 5) z_d)) z_d))) (fun _ _=>rfl)))
  (z_f (z_r (i:=7) sc_L_typed.nd rfl (Or.inl rfl) (pe_dget2 hu (pe_disp (pps_cons z_t z_e (pps_cons z_t z_e (pps_cons z_t z_e (pps_cons z_t z_e (pps_cons z_t z_e (pps_cons z_t z_e pps_nil)))))) rfl rfl (by simp) (by decide)) (pv 6) z_e ⟨rfl,rfl,rfl,rfl⟩))
  (z_f (x_a (PW.pt (pw_or (z_s op_eq (pv 6) z_t (nomark _)) (pw_or (z_s op_eq (pv 3) z_e (nomark _)) (pw_or1 (z_s op_le (pv 4) (pv 7) (nomark _)))))) (z_i (z_z (z_k G_L_leaf (hr.mono (by first | decide | lia)) rfl T.M_L_leaf T.F_L_leaf.kp T.B_L_leaf .nil pass0 (z_a (pv 0) (z_a (pv 1) (z_a (pv 2) z_d)))))) y_a)
  (z_f (z_r (i:=8) sc_L_typed.nd rfl (Or.inl rfl) (z_k G_L_wants (hr.mono (by first | decide | lia)) rfl T.M_L_wants T.F_L_wants.kp T.B_L_wants .nil pass0 (z_a (pv 0) (z_a (pv 6) (z_a (pv 2) z_d)))))
  (z_f (z_r (i:=9) sc_L_typed.nd rfl (Or.inl rfl) (y_d z_d))
  (z_f (x_e PassesOwn.never rfl (pi_zip0 rfl T.zip (z_a (pv 8) (z_a (z_k G_L_rooms (hr.mono (by first | decide | lia)) rfl T.M_L_rooms T.F_L_rooms.kp T.B_L_rooms .nil pass0 (z_a (pv 0) (z_a (z_o op_sub (pv 4) z_e) (z_a (pv 7) z_d)))) z_d))) (pg_tup0 rfl (y_e (z_v (i:=10) sc_L_typed.nd rfl (Or.inl rfl)) (y_e (z_v (i:=11) sc_L_typed.nd rfl (Or.inl rfl)) pgs_nil)))
    (z_i (z_r (i:=9) sc_L_typed.nd rfl (Or.inl rfl) (z_o op_catE (pv 9) (y_d (z_a (z_k G_L_typed (hr.mono (by first | decide | lia)) rfl T.M_L_typed T.F_L_typed.kp T.B_L_typed .nil pass0 (z_a (pv 0) (z_a (pv 1) (z_a (pv 10) (z_a (z_o op_sub (pv 3) z_e) (z_a (pv 11) z_d)))))) z_d))))))
  (z_f (x_a (z_s op_eq (pv 6) z_t (nomark _)) (z_i (z_z (z_o op_catE (y_d (z_a z_t (z_a (z_k G_L_take (hr.mono (by first | decide | lia)) rfl T.M_L_take T.F_L_take.kp T.B_L_take .nil pass0 (z_a (pv 0) (z_a (z_o y_k (z_o op_sub (z_l z_x (pv 8) z_e (fun _ _=>rfl)) (pv 2)) z_e) z_d))) (z_a (pv 2) z_d)))) (pv 9)))) y_a)
  (z_f (x_a (z_s op_eq (pv 6) z_t (nomark _)) (z_i (z_z (z_o op_catE (y_d (z_a z_t (z_a (pv 2) (z_a (y_g y_w rfl T.tuple PyProof.Rows.boot_tuple (z_a (pe_comp [0,2] (fun _ _ h=>h) rfl (y_o rfl T.range (z_a (z_o op_shl z_e (z_l z_x (pv 8) z_e (fun _ _=>rfl))) z_d)) (fun _ _ _ _=>y_n) (fun _ _ _ _=>(z_k G_L_take (hr.mono (by first | decide | lia)) rfl T.M_L_take T.F_L_take.kp T.B_L_take .nil pass0 (z_a (pv 1) (z_a (z_o op_shl z_e (pv 2)) z_d)))) rfl (show ∀ j∈([0,2]:List Nat),j<12 by decide) (show (["_law_k", "_law_bag_here", "_law_width"]:List Str).Nodup by decide +kernel)) z_d)) z_d)))) (pv 9)))) y_a)
  (z_f (x_a (PW.pt (pw_or (z_s op_eq (pv 6) z_t (nomark _)) (pw_or1 (z_s op_eq (pv 6) z_t (nomark _))))) (z_i (z_z (z_o op_catE (y_d (z_a (pv 6) (z_a (z_k G_L_take (hr.mono (by first | decide | lia)) rfl T.M_L_take T.F_L_take.kp T.B_L_take .nil pass0 (z_a (pv 0) (z_a z_e z_d))) z_d))) (pv 9)))) y_a)
  (z_i (z_z (z_o op_catE (y_d (z_a (pv 6) z_d)) (pv 9))))))))))))))),?_⟩
 have nwd:wd≠l:=fun e=>by obtain ⟨b0,b1,e2,_⟩:=hb;rw [e,e2] at hwd;cases hwd
 refine ⟨(by show 13<=sizeLine;decide),fun pw hpw=>?_⟩
 have nw:pw≠l:=hb.ne hpw
 show tSeq _ _ _ _ (upd H pw (.lst (word13.map V.str)))
 have b1:=Bg.new hb hpw (.lst (word13.map V.str))
 have hw1:(upd H pw (.lst (word13.map V.str))) pw=some (.lst (word13.map V.str)):=z_b
 generalize upd H pw (.lst (word13.map V.str))=H1 at b1 hw1 ⊢
 refine ⟨_,rfl,(by show 1<=sizeLine;decide),fun p2 hp2=>?_⟩
 have t2:=z_c hp2 (.lst [.str "join"])
 have f2:=z_b (H:=H1) (a:=p2) (o:=.lst [.str "join"])
 generalize upd H1 p2 (.lst [.str "join"])=H2 at t2 f2 ⊢
 refine ⟨(by show 2<=sizeLine;decide),fun p3 hp3=>?_⟩
 have t3:=z_c hp3 (.lst [.str "under",.str "same"])
 have f3:=z_b (H:=H2) (a:=p3) (o:=.lst [.str "under",.str "same"])
 generalize upd H2 p3 (.lst [.str "under",.str "same"])=H3 at t3 f3 ⊢
 refine ⟨(by show 2<=sizeLine;decide),fun p4 hp4=>?_⟩
 have t4:=z_c hp4 (.lst [.ref p2,.ref p3])
 have f4:=z_b (H:=H3) (a:=p4) (o:=.lst [.ref p2,.ref p3])
 generalize upd H3 p4 (.lst [.ref p2,.ref p3])=H4 at t4 f4 ⊢
 obtain ⟨px,hat,fx⟩:∃ px,atI [V.ref p2,V.ref p3] (if decide (V.int w0=V.int 1)=true then 1 else 0)=some (.ref px)/\H4 px=some (.lst ((if w0=1 then (["under", "same"]:List Str) else ["join"]).map V.str)):=by
  by_cases h:w0=1
  ·rw [if_pos (decide_eq_true (by rw [h])),if_pos h]
   exact ⟨p3,rfl,t4 _ _ f3⟩
  ·rw [if_neg (by intro e;have:=of_decide_eq_true e;injection this with this;exact h this),if_neg h]
   exact ⟨p2,rfl,t4 _ _ (t3 _ _ f2)⟩
 have t14:=(t2.trans t3).trans t4
 have b4:=b1.trans (b1.2.same t14)
 have hlenW:(wordsW w0).length=15\/(wordsW w0).length=14:=by
  unfold wordsW
  rw [List.length_append]
  by_cases h:w0=1
  ·rw [if_pos h];exact .inl rfl
  ·rw [if_neg h];exact .inr rfl
 refine ⟨_,rfl,rfl,.inr ⟨_,rfl,p4,_,_,_,rfl,rfl,SqL.of f4,hat,pw,px,_,_,rfl,rfl,t14 _ _ hw1,fx,?_,fun p5 hp5=>?_⟩⟩
 ·rw [<-List.length_append,<-List.map_append,List.length_map]
  exact small (show (wordsW w0).length<=100000 by lia)
 rw [<-List.map_append]
 show tSeq _ _ _ _ (upd H4 p5 (.lst ((wordsW w0).map V.str)))
 have n5:p5≠l:=b4.2.ne hp5
 have b5:=b4.trans (Bg.new b4.2 hp5 (.lst ((wordsW w0).map V.str)))
 have f5:=z_b (H:=H4) (a:=p5) (o:=.lst ((wordsW w0).map V.str))
 generalize upd H4 p5 (.lst ((wordsW w0).map V.str))=H5 at b5 f5 ⊢
 refine ⟨_,rfl,_,rfl,_,rfl,_,_,rfl,.inl ⟨_,SqL.of f5,rfl⟩,l,_,rfl,b5.2,(by rw [List.length_map];lia),(by rw [List.length_map];exact Int.lt_trans (show (((wordsW w0).length:Nat):Int)<100 by lia) (by decide)),fun d H6 d0 d1 hb6=>?_⟩
 have b6:=b5.trans hb6
 have f6:=hb6.1 _ _ n5 f5
 obtain ⟨k,rfl⟩:=Int.eq_ofNat_of_zero_le d0
 rw [List.length_map] at d1
 have hk:k<(wordsW w0).length:=by lia
 refine ⟨p5,_,_,_,rfl,rfl,SqL.of f6,(show atI ((wordsW w0).map V.str) ((k:Nat):Int)=some (.str (wordsW w0)[k]) from y_c (by rw [List.getElem?_map,List.getElem?_eq_getElem hk];rfl)),?_⟩
 have wz:=fun h0=>wordsW_in (List.getElem_mem hk) h0
 generalize (wordsW w0)[k]=z at wz ⊢
 clear f6 f5 f4 f3 f2 fx hat hw1
 refine fun pm hpm=>⟨z_b,manyKV,rfl,by decide,?_⟩
 rw [upd_upd]
 have b7:=b6.trans (Bg.new b6.2 hpm (.dK (mergeK [] manyKV)))
 have f7:=z_b (H:=H6) (a:=pm) (o:=.dK (mergeK [] manyKV))
 generalize upd H6 pm (.dK (mergeK [] manyKV))=H7 at b7 f7 ⊢
 refine ⟨pm,rfl,.inl ⟨_,.inl f7⟩,_,rfl,_,DGet.k (k:=.inr z) f7,?_⟩
 rw [show mergeK [] manyKV=manyKV from rfl,many_val z]
 refine ⟨_,rfl,rfl,_,rfl,?_⟩
 by_cases hz0:z = ""
 ·refine ite_t (decide_eq_true (by rw [hz0])) (iteT ?_)
  exact ⟨_,rfl,_,rfl,_,rfl,l,wd,kvs,kv,w0,rfl,b7.2,b7.1 _ _ nwd hwd,kw,gd,w1,w8,fun d v H' tp hD g=>q d v H' (tp.up (by lia)) hD (b7.trans g)⟩
 refine ite_f (decide_eq_false fun h=>hz0 (by injection h)) ⟨_,rfl,rfl,_,rfl,?_⟩
 by_cases hA:n=0
 ·refine ite_t (decide_eq_true (by rw [hA];rfl)) (iteT ?_)
  exact ⟨_,rfl,_,rfl,_,rfl,l,wd,kvs,kv,w0,rfl,b7.2,b7.1 _ _ nwd hwd,kw,gd,w1,w8,fun d v H' tp hD g=>q d v H' (tp.up (by lia)) hD (b7.trans g)⟩
 refine ite_f (decide_eq_false fun h=>by injection h with h;lia) ⟨_,rfl,_,rfl,_,_,rfl,rfl,_,rfl,?_⟩
 by_cases hC:room<=((wantN z:Nat):Int)
 ·refine ite_t (decide_eq_true hC) ?_
  exact ⟨_,rfl,_,rfl,_,rfl,l,wd,kvs,kv,w0,rfl,b7.2,b7.1 _ _ nwd hwd,kw,gd,w1,w8,fun d v H' tp hD g=>q d v H' (tp.up (by lia)) hD (b7.trans g)⟩
 refine ite_f (decide_eq_false hC) ?_
 refine ⟨_,rfl,_,rfl,_,rfl,l,z,w0,rfl,b7.2,w1,w8,wz hz0,fun pa ws H8 hpa npa g8 fpa wt=>?_⟩
 have b8:=b7.trans g8
 obtain ⟨hws,hlen⟩:=wt.bound ⟨w1,w8⟩
 have hw3':1<=ws.length/\ws.length<=3:=by cases wt<;>exact ⟨by simp,by simp⟩
 refine ⟨(by show 0<=sizeLine;decide),fun p0 hp0=>?_⟩
 have n0:p0≠l:=b8.2.ne hp0
 have b9:=b8.trans (Bg.new b8.2 hp0 (.tup []))
 have fpa9:=(z_c hp0 (.tup [])) _ _ fpa
 have f09:=z_b (H:=H8) (a:=p0) (o:=.tup [])
 generalize upd H8 p0 (.tup [])=H9 at b9 fpa9 f09 ⊢
 refine ⟨_,rfl,_,rfl,_,rfl,_,_,rfl,rfl,_,rfl,l,room-1,((wantN z:Nat):Int),rfl,b9.2,by lia,by lia,by lia,by lia,fun pr rs H10 hpr npr g10 fpr hrl hrb=>?_⟩
 have b10:=b9.trans g10
 have fpa10:=g10.1 _ _ npa fpa9
 have f010:=g10.1 _ _ n0 f09
 refine ⟨pa,pr,rfl,⟨_,SqL.of fpa10⟩,⟨_,SqL.of fpr⟩,for_zip (xs:=ws.map V.int) (ys:=rs.map V.int) (fun i σ H'=>∃ (x10 x11:Option V) (ss:List PyData) (pp:Addr) (ps:List V),σ=[some (.ref l),some (.ref wd),some (.int w0),some (.int ((n+1:Nat):Int)),some (.int room),some (.ref p5),some (.str z),some (.int ((wantN z:Nat):Int)),some (.ref pa),some (.ref pp),x10,x11]/\Bg l H H'/\H' pa=some (.lst (ws.map V.int))/\H' pr=some (.lst (rs.map V.int))/\H' pp=some (.tup ps)/\Dats H' ss ps/\ss.length=i/\∀ (j:Nat) (s:PyData),ss[j]? = some s->∃ a:Int,ws[j]? = some a/\Tp kv (n+1) s a) ⟨_,_,[],p0,[],rfl,b10,fpa10,fpr,f010,Dats.nil,rfl,fun _ _ h=>nomatch h⟩ ?_ ?_ ?_ ?_⟩
 ·rintro i σ H' ⟨_,_,_,_,_,_,_,h1,h2,_⟩
  exact ⟨SqL.of h1,SqL.of h2⟩
 ·rw [List.length_map,List.length_map];lia
 ·rintro i x y pt σ H' hx hy ⟨x10,x11,ss,pp,ps,rfl,g,h1,h2,h3,h4,h5,h6⟩ hpt
  rw [List.getElem?_map] at hx hy
  obtain ⟨a,ha,rfl⟩:=Option.map_eq_some_iff.mp hx
  obtain ⟨m,hm,rfl⟩:=Option.map_eq_some_iff.mp hy
  have ha8:=hws a (List.mem_of_getElem? ha)
  have hm8:=hrb m (List.mem_of_getElem? hm)
  have hi3:i<ws.length:=(List.getElem?_eq_some_iff.mp ha).1
  refine ⟨pt,_,rfl,SqT.of z_b,rfl,_,_,rfl,_,_,rfl,rfl,?_⟩
  have tt:=z_c hpt (.tup [.int a,.int m])
  have gt:=g.trans (g.2.same tt)
  generalize upd H' pt (.tup [.int a,.int m])=Ha at tt gt ⊢
  refine ⟨_,rfl,_,rfl,_,rfl,_,rfl,_,rfl,_,_,rfl,rfl,_,rfl,l,wd,kvs,kv,a,m,?_,by lia,gt.2,gt.1 _ _ nwd hwd,kw,gd,ha8.1,ha8.2,hm8,fun d v Hb tp hD gb=>?_⟩
  ·show [V.ref l,V.ref wd,V.int a,V.int (((n+1:Nat):Int)-1),V.int m]=[V.ref l,V.ref wd,V.int a,V.int n,V.int m]
   rw [show (((n+1:Nat):Int)-1)=(n:Int) by lia]
  have kt:=(KeepT.same tt).trans (Bg.keepT gt.2 gb)
  have g2:=gt.trans gb
  have h1b:=gb.1 _ _ npa (tt _ _ h1)
  have h2b:=gb.1 _ _ npr (tt _ _ h2)
  have h3b:=kt _ _ h3
  have h4b:=h4.keepT kt (z_u fun s hs=>by
   obtain ⟨j,hj,ej⟩:=List.getElem_of_mem hs
   obtain ⟨a',_,ht⟩:=h6 j s (by rw [List.getElem?_eq_getElem hj,ej])
   exact ht.noL)
  refine ⟨(by show 1<=sizeLine;decide),fun p1 hp1=>?_⟩
  have tc:=z_c hp1 (.tup [v])
  have fc:=z_b (H:=Hb) (a:=p1) (o:=.tup [v])
  generalize upd Hb p1 (.tup [v])=Hc at tc fc ⊢
  have hpl:=h4b.length
  refine ⟨pp,p1,_,_,rfl,rfl,tc _ _ h3b,fc,small (by simp only [List.length_singleton];lia),fun p' Hd td fd=>?_⟩
  have te:=tc.trans td
  refine ⟨_,_,ss++[d],p',_,rfl,g2.trans (g2.2.same te),te _ _ h1b,te _ _ h2b,fd,(h4b.same te).append (.cons (hD.same te) .nil),by rw [List.length_append,h5];rfl,fun j s hs=>?_⟩
  by_cases hj:j<ss.length
  ·rw [List.getElem?_append_left hj] at hs
   exact h6 j s hs
  ·rw [List.getElem?_append_right (by lia)] at hs
   have hj2:j=i:=by have:=(List.getElem?_eq_some_iff.mp hs).1;rw [List.length_singleton] at this;lia
   rw [hj2,h5,Nat.sub_self] at hs
   cases hs
   rw [hj2]
   exact ⟨a,ha,tp⟩
 ·rintro σ H' ⟨x10,x11,ss,pp,ps,rfl,g,h1,h2,h3,h4,h5,h6⟩
  rw [List.length_map] at h5
  have nos:noLs ss=true:=z_u fun s hs=>by
   obtain ⟨j,hj,ej⟩:=List.getElem_of_mem hs
   obtain ⟨a',_,ht⟩:=h6 j s (by rw [List.getElem?_eq_getElem hj,ej])
   exact ht.noL
  have hpl:=h4.length
  have fin:∀ (hd:List PyData) (hv:List V) (p8:Addr) (H9:Hp),KeepT H' H9->Bg l H H9->H9 p8=some (.tup (.str z::hv))->Dats H9 hd hv->Et z hd ws w0->hv.length<=2->rCatE (.ref p8) (.ref pp) H9 Q:=fun hd hv p8 H9 kt g9 e8 hdv et hv2 =>
   ⟨p8,pp,_,_,rfl,rfl,e8,kt _ _ h3,small (by rw [List.length_cons];lia),fun p' H10 sm hp'=>q (.tuple (.str z::(hd++ss))) _ _ ⟨⟨w1,w8⟩,.inr (.inr ⟨z,hd,ss,ws,rfl,et,h5,hws,h6⟩)⟩ (Dat.tup hp' (.cons (Dat.str _) ((hdv.same sm).append ((h4.keepT kt nos).same sm)))) (g9.trans (g9.2.same sm))⟩
  refine ⟨_,rfl,rfl,_,rfl,?_⟩
  by_cases zc:z = "cut"
  ·refine ite_t (by rw [zc];decide) ?_
   obtain ⟨a0,hws0,a1,a8⟩:∃ a0,ws=[a0]/\w0<=a0/\a0<=8:=by
    rw [zc] at wt
    cases wt with
    | cut a c1 c8=>exact ⟨a,rfl,c1,c8⟩
   subst hws0
   refine ⟨_,rfl,_,rfl,pa,_,_,_,rfl,rfl,SqL.of h1,rfl,_,rfl,_,_,rfl,rfl,_,_,rfl,rfl,l,_,rfl,g.2,(by show (0:Int)<a0-w0+1;lia),(by show (a0-w0+1:Int)<bigB;exact Int.lt_trans (show (a0-w0+1:Int)<100 by lia) (by decide)),fun f H9 f0 f1 hb9=>?_⟩
   have f1':f<a0-w0+1:=f1
   have g9:=g.trans hb9
   have k9:=Bg.keepT g.2 hb9
   refine ⟨_,rfl,(by show 3<=sizeLine;decide),fun p8 hp8=>?_⟩
   rw [<-zc]
   exact ⟨_,rfl,fin [.int f,.int w0] [.int f,.int w0] p8 _ (k9.trans (KeepT.same (z_c hp8 _))) (g9.trans (Bg.new g9.2 hp8 _)) z_b (.cons (Dat.int _) (.cons (Dat.int _) .nil)) (by rw [zc];exact Et.cut f w0 a0 f0 (by lia) (by lia)) (by simp)⟩
  refine ite_f (decide_eq_false fun h=>zc (by injection h)) ?_
  refine ⟨_,rfl,rfl,_,rfl,?_⟩
  by_cases zt:z = "table"
  ·refine ite_t (by rw [zt];decide) ?_
   obtain ⟨a0,hws0,a1,a4⟩:∃ a0,ws=[a0]/\1<=a0/\a0<=4:=by
    rw [zt] at wt
    cases wt with
    | table a c1 c8=>exact ⟨a,rfl,c1,c8⟩
   subst hws0
   have hpow:=pow_pos2 w0.toNat
   have hpow2:=pow_le2 (n:=w0.toNat) (by lia)
   have hpa1:=pow_pos2 a0.toNat
   have hpa2:=pow_le2 (n:=a0.toNat) (by lia)
   have hpa3:(2:Int)^a0.toNat<=16:=by
    have h:(2:Nat)^a0.toNat<=2^4:=Nat.pow_le_pow_right (by decide) (by lia)
    rw [cast_pow]
    lia
   refine ⟨_,rfl,_,rfl,pa,_,_,_,rfl,rfl,SqL.of h1,rfl,_,_,rfl,rfl,⟨by lia,by lia,by decide⟩,_,rfl,by lia,by lia,comp_range (lo:=0) (fun i ys H''=>Bg l H' H''/\∃ ns:List Int,ys=ns.map V.int/\ns.length=i/\∀ m∈ns,Rng w0.toNat m) ⟨Bg.refl g.2,[],rfl,rfl,(fun _ h=>nomatch h)⟩ ?_ ?_ ?_⟩
   ·rintro i ys H'' hi ⟨_,ns,rfl,hl,_⟩
    rw [List.length_map]
    exact y_b (by lia)
   ·rintro i ys H'' hi ⟨gg,ns,rfl,hl,hns⟩
    unfold tYes
    refine iteT ⟨_,rfl,_,rfl,_,_,rfl,rfl,⟨by lia,by lia,by decide⟩,l,_,rfl,gg.2,(by rw [Int.one_mul];exact hpow),(by rw [Int.one_mul];exact Int.lt_of_le_of_lt hpow2 (by decide)),fun d9 H13 e0 e1 hb13=>?_⟩
    rw [Int.one_mul] at e1
    refine ⟨gg.trans hb13,ns++[d9],by rw [List.map_append];rfl,by rw [List.length_append,hl];rfl,fun m hm=>?_⟩
    rcases List.mem_append.mp hm with h | h
    ·exact hns m h
    ·rw [List.mem_singleton.mp h];exact ⟨e0,e1⟩
   ·rintro ys H'' ⟨gg,ns,rfl,hl,hns⟩ pl hpl
    have g13:=(g.trans gg).trans (Bg.new gg.2 hpl (.lst (ns.map V.int)))
    have k13:=(Bg.keepT g.2 gg).trans (KeepT.same (z_c hpl (.lst (ns.map V.int))))
    have f13:=z_b (H:=H'') (a:=pl) (o:=.lst (ns.map V.int))
    generalize upd H'' pl (.lst (ns.map V.int))=H13 at g13 k13 f13 ⊢
    refine ⟨pl,_,rfl,.inl ⟨SqL.of f13,fun pt hpt=>?_⟩⟩
    have g14:=g13.trans (Bg.new g13.2 hpt (.tup (ns.map V.int)))
    have k14:=k13.trans (KeepT.same (z_c hpt (.tup (ns.map V.int))))
    have f14:=z_b (H:=H13) (a:=pt) (o:=.tup (ns.map V.int))
    generalize upd H13 pt (.tup (ns.map V.int))=H14 at g14 k14 f14 ⊢
    refine ⟨(by show 3<=sizeLine;decide),fun p8 hp8=>?_⟩
    rw [<-zt]
    exact ⟨_,rfl,fin [.int w0,.tuple (ns.map PyData.int)] [.int w0,.ref pt] p8 _ (k14.trans (KeepT.same (z_c hp8 _))) (g14.trans (Bg.new g14.2 hp8 _)) z_b (.cons (Dat.int _) (.cons (Dat.tup ((z_c hp8 _) _ _ f14) (Dats.ints _)) .nil)) (by rw [zt];exact Et.table w0 a0 ns a4 (by rw [hl];lia) hns) (by simp)⟩
  refine ite_f (decide_eq_false fun h=>zt (by injection h)) ?_
  have shifts:(z = "up" \/ z = "down")->∀ (e9:Int) (H9:Hp),0<=e9->e9<9->Bg l H' H9->∀ p8,H9 p8=none->rCatE (.ref p8) (.ref pp) (upd H9 p8 (.tup [.str z,.int e9])) Q:=fun hz e9 H9 e0 e1 hb9 p8 hp8=>by
   refine fin [.int e9] [.int e9] p8 _ ((Bg.keepT g.2 hb9).trans (KeepT.same (z_c hp8 _))) ((g.trans hb9).trans (Bg.new hb9.2 hp8 _)) z_b (.cons (Dat.int _) .nil) ?_ (by simp)
   rcases hz with e | e
   ·rw [e] at wt ⊢
    cases wt
    exact Et.up e9 w0 e0 (by lia)
   ·rw [e] at wt ⊢
    cases wt
    exact Et.down e9 w0 e0 (by lia)
  refine ⟨_,rfl,rfl,_,rfl,?_⟩
  by_cases zu:z = "up"
  ·refine ite_t (by rw [zu];decide) (iteT ?_)
   refine ⟨_,rfl,_,rfl,l,9,rfl,g.2,by decide,by decide,fun e9 H9 e0 e1 hb9=>⟨(by show 2<=sizeLine;decide),fun p8 hp8=>?_⟩⟩
   exact ⟨_,rfl,shifts (.inl zu) e9 H9 e0 e1 hb9 p8 hp8⟩
  refine ite_f (decide_eq_false fun h=>zu (by injection h)) ⟨_,rfl,rfl,_,rfl,?_⟩
  by_cases zd:z = "down"
  ·refine ite_t (by rw [zd];decide) ?_
   refine ⟨_,rfl,_,rfl,l,9,rfl,g.2,by decide,by decide,fun e9 H9 e0 e1 hb9=>⟨(by show 2<=sizeLine;decide),fun p8 hp8=>?_⟩⟩
   exact ⟨_,rfl,shifts (.inr zd) e9 H9 e0 e1 hb9 p8 hp8⟩
  refine ite_f (decide_eq_false fun h=>zd (by injection h)) ?_
  refine ⟨_,rfl,(by show 1<=sizeLine;decide),fun p8 hp8=>?_⟩
  exact ⟨_,rfl,fin [] [] p8 _ (KeepT.same (z_c hp8 _)) (g.trans (Bg.new g.2 hp8 _)) z_b .nil (wt.et ⟨w1,w8⟩ zc zt zu zd) (by simp)⟩
theorem ok_L_count(T:Tx w K mg A)(n:Nat)(G_L_count:FnOk P w K mg base CX0 (n+2) A.a_L_count A.d_L_count ["_law_saying"] (sp_count n)):FnOk P w K mg base CX0 (n+3) A.a_L_count A.d_L_count ["_law_saying"] (sp_count (n+1)):=by
 refine T.F_L_count.ok sc_L_count (fun vs H Q E h=>?_) (fun cdv A' outer s H vs Q E hr h=>?_)
 ·obtain ⟨d,v,rfl,hs,hD,q⟩:=h
  rfl
 obtain ⟨d,v,rfl,hs,hD,q⟩:=h
 refine ⟨_,(z_i (z_z (z_o y_k z_e (z_p call_sum rfl T.sum PyProof.Rows.boot_sum (z_a (pe_comp1 [] (fun _ _ h=>h) rfl (pi_tup0 (pv 0)) (fun _ _ _ _=>(PW.pt (pw_and (pt_truth0 (z_p (call_isinstK (K:=K) rfl (T := "tuple")) rfl T.isinstance PyProof.Rows.boot_isinstance (z_a (pv 0) (z_a (x_t (v:=.ty "tuple") rfl T.tuple PyProof.Rows.boot_tuple rfl) z_d))) (fun _=>rfl)) (pw_and1 (pt_truth0 (z_p (call_isinstK (K:=K) rfl (T := "str")) rfl T.isinstance PyProof.Rows.boot_isinstance (z_a (z_l z_n (pv 0) z_e (fun _ _=>rfl)) (z_a (x_t (v:=.ty "str") rfl T.str PyProof.Rows.boot_str rfl) z_d))) (fun _=>rfl)))))) (fun _ _ _ _=>(z_k G_L_count (hr.mono (by first | decide | lia)) rfl T.M_L_count T.F_L_count.kp T.B_L_count .nil pass0 (z_a (pv 0) z_d))) rfl (show ∀ j∈([]:List Nat),j<1 by decide) (show (["_law_one"]:List Str).Nodup by decide +kernel)) z_d))))),?_⟩
 obtain ⟨es,rfl,hl,he⟩:=hs.el
 obtain ⟨p,xs,rfl,hp,hX⟩:=hD.tupI
 have hxl:=hX.length
 refine ⟨_,rfl,p,rfl,⟨_,SqT.of hp⟩,comp_tup (xs:=xs) (fun i ys H'=>Same H H'/\∃ ns:List Int,ys=ns.map V.int/\ns.length<=i/\0<=ns.sum/\ns.sum<=(i:Int)*7^n) ⟨Same.refl _,[],rfl,Nat.le_refl _,Int.le_refl _,by simp⟩ ?_ ?_ ?_ ?_⟩
 ·rintro i ys H' _ ⟨s',_⟩
  exact SqT.of (s' _ _ hp)
 ·rintro i ys H' hi ⟨_,ns,rfl,hn,_⟩
  rw [List.length_map]
  exact y_b (by lia)
 ·rintro i y ys H' hy ⟨s',ns,rfl,hn,h0,hb⟩
  obtain ⟨e,hey,hyd⟩:=hX.get hy
  have hyd':=hyd.same s'
  rcases he e (List.mem_of_getElem? hey) with (⟨x,rfl⟩ | ⟨j,rfl⟩ | ⟨m,ms,rfl⟩) | hsd
  ·have f:y = .str x:=by unfold Dat at hyd;exact hyd
   subst f
   refine ⟨_,rfl,_,_,false,rfl,TyOf.str x,rfl,_,rfl,iteF (iteF ?_)⟩
   exact ⟨s',ns,rfl,by lia,h0,cnt_up hb⟩
  ·have f:=hyd.intI
   subst f
   refine ⟨_,rfl,_,_,false,rfl,TyOf.int j,rfl,_,rfl,iteF (iteF ?_)⟩
   exact ⟨s',ns,rfl,by lia,h0,cnt_up hb⟩
  ·obtain ⟨py,ys,rfl,hpy⟩:=ints_hd hyd'
   refine ⟨_,rfl,_,_,true,rfl,TyOf.tup hpy,rfl,_,rfl,iteT ?_⟩
   refine ⟨_,rfl,py,_,_,_,rfl,rfl,SqT.of hpy,(show atI _ ((0:Nat):Int)=_ from y_c rfl),_,_,false,rfl,TyOf.int m,rfl,_,rfl,iteF ?_⟩
   exact ⟨s',ns,rfl,by lia,h0,cnt_up hb⟩
  ·obtain ⟨py,z,ys,rfl,hpy⟩:=say_hd hsd hyd'
   refine ⟨_,rfl,_,_,true,rfl,TyOf.tup hpy,rfl,_,rfl,iteT ?_⟩
   refine ⟨_,rfl,py,_,_,_,rfl,rfl,SqT.of hpy,(show atI _ ((0:Nat):Int)=_ from y_c rfl),_,_,true,rfl,TyOf.str z,rfl,_,rfl,iteT ?_⟩
   refine ⟨_,rfl,e,_,rfl,hsd,hyd',fun c H3 c1 c7 s3=>?_⟩
   exact ⟨s'.trans s3,ns++[c],by rw [List.map_append];rfl,by rw [List.length_append];exact Nat.succ_le_succ hn,by rw [List.sum_append];simp;lia,by rw [List.sum_append];simp only [List.sum_cons,List.sum_nil,Int.add_zero];exact cnt_add hb c7⟩
 rintro ys H3 ⟨s3,ns,rfl,hn,h0,hb⟩ pl hpl
 exact ⟨rfl,pl,ns,rfl,SqL.of z_b,_,_,rfl,rfl,q _ _ (by lia) (cnt_end (by lia) hb) (s3.trans (z_c hpl _))⟩
theorem ok_L_cost(T:Tx w K mg A):FnOk P w K mg base CX0 1 A.a_L_cost A.d_L_cost ["_law_part_here", "_law_size", "_law_many", "_law_first"] sp_cost:=by
 refine T.F_L_cost.ok sc_L_cost (fun vs H Q E h=>?_) (fun cdv A' outer s H vs Q E hr h=>?_)
 ·obtain ⟨P',v,sz,s0,s1,many,first,rfl,hD,hsz,m1,m8,q⟩:=h
  rfl
 obtain ⟨P',v,sz,s0,s1,many,first,rfl,hD,hsz,m1,m8,q⟩:=h
 refine ⟨_,(z_f (z_r (i:=4) sc_L_cost.nd rfl (Or.inl rfl) (z_p y_f rfl T.len PySem.boot_len (z_a (z_l z_n (pv 0) z_e (fun _ _=>rfl)) z_d)))
  (z_f (z_r (i:=5) sc_L_cost.nd rfl (Or.inl rfl) (z_p y_f rfl T.len PySem.boot_len (z_a (z_l z_n (pv 0) z_e (fun _ _=>rfl)) z_d)))
  (z_i (z_z (y_h (z_a (z_o y_k (z_o op_mul (pv 2) (z_o y_k (pv 4) (z_l z_x (pv 1) z_e (fun _ _=>rfl)))) (pv 5)) (z_a (z_o y_k (z_o y_k (z_o y_k (pv 3) (z_o op_mul (z_o op_sub (pv 2) z_e) (pv 4))) (z_o op_mul (pv 2) (z_l z_x (pv 1) z_e (fun _ _=>rfl)))) (pv 5)) z_d))))))),?_⟩
 obtain ⟨r,pd,po,pr,ds,os,rs,rfl,h1,h2,h3,h4,d1,d2,d3⟩:=x_c hD
 have l1:=d1.length
 have l2:=d2.length
 rw [List.length_map] at l1 l2
 refine ⟨_,rfl,r,_,_,_,rfl,rfl,SqT.of h1,rfl,_,_,rfl,.inr ⟨_,SqT.of h2,rfl⟩,?_⟩
 refine ⟨_,rfl,r,_,_,_,rfl,rfl,SqT.of h1,rfl,_,_,rfl,.inr ⟨_,SqT.of h3,rfl⟩,?_⟩
 rw [<-l1,<-l2]
 exact ⟨_,rfl,_,rfl,_,rfl,sz,_,_,_,rfl,rfl,SqL.of hsz,rfl,_,_,rfl,rfl,_,_,rfl,rfl,.inl ⟨by lia,by lia⟩,_,rfl,_,_,rfl,rfl,_,rfl,_,rfl,_,_,rfl,rfl,_,rfl,_,_,rfl,rfl,.inl ⟨by lia,by lia⟩,_,_,rfl,rfl,_,rfl,_,rfl,sz,_,_,_,rfl,rfl,SqL.of hsz,rfl,_,_,rfl,rfl,.inl ⟨by lia,by lia⟩,_,_,rfl,rfl,_,rfl,_,_,rfl,rfl,(by show 2<=sizeLine;decide),fun p hp=>q p hp⟩
theorem ok_L_use(T:Tx w K mg A)(G_L_cost:FnOk P w K mg base CX0 1 A.a_L_cost A.d_L_cost ["_law_part_here", "_law_size", "_law_many", "_law_first"] sp_cost)(G_L_take:FnOk P w K mg base CX0 1 A.a_L_take A.d_L_take ["_law_bag_here", "_law_many"] y_v)(G_L_typed:FnOk P w K mg base CX0 9 A.a_L_typed A.d_L_typed ["_law_bag_here", "_law_widths", "_law_width", "_law_deep", "_law_room"] (sp_typedN 4))(G_L_count:FnOk P w K mg base CX0 8 A.a_L_count A.d_L_count ["_law_saying"] (sp_count 5)):FnOk P w K mg base CX0 10 A.a_L_use A.d_L_use ["_law_bag_here", "_law_part_here", "_law_size", "_law_names", "_law_widths", "_law_left"] sp_Luse:=by
 refine T.F_L_use.ok sc_L_use (fun vs H Q E h=>?_) (fun cdv A' outer s H vs Q E hr h=>?_)
 ·obtain ⟨l,sz,np,wd,lf,v,q',zs,kvs,s0,s1,f0,f1,mk,rfl,hb,⟨lk,hq⟩,nLq,hD,hsz,hn,hwd,gw,hmk,hlf,npl,nsl,nsn,nfl,nfn,qN,qT⟩:=h
  rfl
 obtain ⟨l,sz,np,wd,lf,v,q',zs,kvs,s0,s1,f0,f1,mk,rfl,hb,⟨lk,hq⟩,nLq,hD,hsz,hn,hwd,gw,hmk,hlf,npl,nsl,nsn,nfl,nfn,qN,qT⟩:=h
 have hu64:=hr.units
 have hu:=hu_of hr
 refine ⟨_,(z_f (ps_comp [1] sc_L_use.nd (i:=6) rfl (Or.inl rfl) (fun _ _ h=>h) rfl (pi_list (y_h (z_a z_e (z_a z_e z_d)))) (fun _ _ _ _=>y_n) (fun _ _ _ _=>(pe_compG ["_law_name", "_law_width"] [] (fun _ _ h=>h) rfl (pi_tupK (K:=K) rfl (z_l (ix_tupK (K:=K) rfl) (pv 1) (pv 0) (fun _ _=>rfl))) (fun _ _ _ _=>(pg_tup rfl (y_e (z_v (i:=0) (show (["_law_name", "_law_width"]:List Str).Nodup by decide +kernel) rfl (Or.inl rfl)) (y_e (z_v (i:=1) (show (["_law_name", "_law_width"]:List Str).Nodup by decide +kernel) rfl (Or.inl rfl)) pgs_nil)))) shp_tup2 (fun _ _ _ _=>y_n) (fun _ _ _ _=>(pv 1)) rfl (show ∀ j∈([]:List Nat),j<2 by decide))) rfl (show ∀ j∈([1]:List Nat),j<14 by decide) (show (["_law_side", "_law_part_here"]:List Str).Nodup by decide +kernel) (by with_unfolding_all rfl))
  (z_f (z_r (i:=7) sc_L_use.nd rfl (Or.inl rfl) z_e)
  (z_f (x_a (PW.pt (pw_and (z_s (op_eqD hu64) (z_l y_p (pv 6) z_e (fun _ _=>rfl)) (z_l y_p (pv 6) z_e (fun _ _=>rfl)) (nomark _)) (pw_and1 (z_s op_gt (z_k G_L_take (hr.mono (by first | decide | lia)) rfl T.M_L_take T.F_L_take.kp T.B_L_take .nil pass0 (z_a (pv 0) (z_a z_e z_d))) z_e (nomark _))))) (z_i (z_r (i:=7) sc_L_use.nd rfl (Or.inl rfl) (z_o y_k z_e (z_k G_L_take (hr.mono (by first | decide | lia)) rfl T.M_L_take T.F_L_take.kp T.B_L_take .nil pass0 (z_a (pv 0) (z_a z_e z_d)))))) y_a)
  (z_f (z_r (i:=8) sc_L_use.nd rfl (Or.inl rfl) (y_g call_tuple_of rfl T.tuple PyProof.Rows.boot_tuple (z_a (pe_comp [0,4] (fun _ _ h=>h) rfl (pi_list (z_l y_p (pv 6) z_e (fun _ _=>rfl))) (fun _ _ _ _=>y_n) (fun _ _ _ _=>(z_k G_L_typed (hr.mono (by first | decide | lia)) rfl T.M_L_typed T.F_L_typed.kp T.B_L_typed .nil pass0 (z_a (pv 1) (z_a (pv 2) (z_a (pv 0) (z_a z_e (z_a z_e z_d))))))) rfl (show ∀ j∈([0,4]:List Nat),j<14 by decide) (show (["_law_width", "_law_bag_here", "_law_widths"]:List Str).Nodup by decide +kernel)) z_d)))
  (z_f (z_r (i:=9) sc_L_use.nd rfl (Or.inl rfl) (z_p call_sum rfl T.sum PyProof.Rows.boot_sum (z_a (pe_comp [] (fun _ _ h=>h) rfl (pi_tup (pv 8)) (fun _ _ _ _=>y_n) (fun _ _ _ _=>(z_k G_L_count (hr.mono (by first | decide | lia)) rfl T.M_L_count T.F_L_count.kp T.B_L_count .nil pass0 (z_a (pv 0) z_d))) rfl (show ∀ j∈([]:List Nat),j<14 by decide) (show (["_law_saying"]:List Str).Nodup by decide +kernel)) z_d)))
  (z_f (z_r (i:=10) sc_L_use.nd rfl (Or.inl rfl) (z_k G_L_cost (hr.mono (by first | decide | lia)) rfl T.M_L_cost T.F_L_cost.kp T.B_L_cost .nil pass0 (z_a (pv 1) (z_a (pv 2) (z_a (pv 7) (z_a (pv 9) z_d))))))
  (z_f (ps_while PassesOwn.never (PW.pt (pw_and (z_s op_gt (pv 7) z_e (nomark _)) (pw_and1 (PW.pt (pw_or (z_s op_gt (z_l y_p (pv 10) z_e (fun _ _=>rfl)) (z_l y_p (pv 5) z_e (fun _ _=>rfl)) (nomark _)) (pw_or1 (z_s op_gt (z_l y_p (pv 10) z_e (fun _ _=>rfl)) (z_l y_p (pv 5) z_e (fun _ _=>rfl)) (nomark _))))))))
    (z_f (z_r (i:=7) sc_L_use.nd rfl (Or.inl rfl) (z_o op_sub (pv 7) z_e))
  (z_i (z_r (i:=10) sc_L_use.nd rfl (Or.inl rfl) (z_k G_L_cost (hr.mono (by first | decide | lia)) rfl T.M_L_cost T.F_L_cost.kp T.B_L_cost .nil pass0 (z_a (pv 1) (z_a (pv 2) (z_a (pv 7) (z_a (pv 9) z_d)))))))))
  (z_f (x_a (PW.pt (pw_or (z_s op_gt (z_l y_p (pv 10) z_e (fun _ _=>rfl)) (z_l y_p (pv 5) z_e (fun _ _=>rfl)) (nomark _)) (pw_or (z_s op_gt (z_l y_p (pv 10) z_e (fun _ _=>rfl)) (z_l y_p (pv 5) z_e (fun _ _=>rfl)) (nomark _)) (pw_or1 (z_s op_lt (z_p call_len rfl T.len PySem.boot_len (z_a (pv 3) z_d)) z_e (nomark _)))))) (z_i (z_z pe_non)) y_a)
  (z_f (z_r (i:=11) sc_L_use.nd rfl (Or.inl rfl) (y_g call_tuple_of rfl T.tuple PyProof.Rows.boot_tuple (z_a (pe_comp [3] (fun _ _ h=>h) rfl (pi_list (z_l y_p (pv 6) z_e (fun _ _=>rfl))) (fun _ _ _ _=>y_n) (fun _ _ _ _=>(pe_bmK (K:=K) rfl PySem.F.plainAttrs_list PySem.F.slot_list_pop PySem.F.type_list_pop mt_popAt (pv 1) (z_a z_e z_d))) rfl (show ∀ j∈([3]:List Nat),j<14 by decide) (show (["_law_width", "_law_names"]:List Str).Nodup by decide +kernel)) z_d)))
  (z_f (x_e PassesOwn.never rfl (pi_zipm rfl T.zip (z_a (pv 11) (z_a (z_l y_p (pv 6) z_e (fun _ _=>rfl)) z_d))) (pg_tup rfl (y_e (z_v (i:=12) sc_L_use.nd rfl (Or.inl rfl)) (y_e (z_v (i:=13) sc_L_use.nd rfl (Or.inl rfl)) pgs_nil)))
    (z_i (ps_dput hu (pv 4) (pv 12) (pv 13) rfl)))
  (z_f (x_a (PW.pt (pw_or (z_s (op_neD hu64) (z_l y_p (pv 6) z_e (fun _ _=>rfl)) (z_l y_p (pv 6) z_e (fun _ _=>rfl)) (nomark _)) (pw_or1 (PW.pt (pw_and (z_s op_eq (pv 7) z_e (nomark _)) (pw_and1 (z_s op_gt (z_k G_L_take (hr.mono (by first | decide | lia)) rfl T.M_L_take T.F_L_take.kp T.B_L_take .nil pass0 (z_a (pv 0) (z_a z_e z_d))) z_e (nomark _)))))))) (z_i (z_z (y_d (z_a (y_d (z_a z_t (z_a (pe_bm0 PySem.F.plainAttrs_list PySem.F.slot_list_pop PySem.F.type_list_pop mt_pop (pv 3)) (z_a (z_l ix_tup (pv 1) z_e (fun _ _=>rfl)) (z_a (pv 8) (z_a (pv 11) z_d)))))) (z_a (pv 10) z_d))))) y_a)
  (z_i (z_z (y_d (z_a (y_d (z_a z_t (z_a (pv 7) (z_a (pe_bm0 PySem.F.plainAttrs_list PySem.F.slot_list_pop PySem.F.type_list_pop mt_pop (pv 3)) (z_a (z_l ix_tup (pv 1) z_e (fun _ _=>rfl)) (z_a (pv 8) (z_a (pv 11) z_d))))))) (z_a (pv 10) z_d)))))))))))))))),?_⟩
 obtain ⟨r,pd,po,pr,ds,os,rs,rfl,k1,k2,k3,k4,d1,d2,d3⟩:=x_c hD
 have lds:=d1.length
 have los:=d2.length
 rw [List.length_map] at lds los
 have il:=hq.il
 have ol:=hq.ol
 refine ⟨(by show 2<=sizeLine;decide),fun p0 hp0=>?_⟩
 have u0:=z_c hp0 (.lst [.int 1,.int 2])
 have g0:=z_b (H:=H) (a:=p0) (o:=.lst [.int 1,.int 2])
 generalize upd H p0 (.lst [.int 1,.int 2])=H0 at u0 g0 ⊢
 have side:∀ (J:Hp) (pX:Addr) (xs:List V) (dX:List (Str×Int)) (m:Int) (N:V->Hp->Prop),Same H J->H pX=some (.tup xs)->Dats H (dX.map doorD) xs->dX.length<=3->atI [V.str q'.nm,.ref pd,.ref po,.ref pr] m=some (.ref pX)->(∀ p,J p=none->N (.ref p) (upd J p (.lst ((dX.map Prod.snd).map V.int))))->tCompG 2 (gTup K 2 (gCons (gName 0) (gCons (gName 1) gNil))) [] (iTup K (tOp (rIxT K) (tVar 1) (tVar 0))) tYes (tVar 1) [some (.int m),some (.ref r)] J N:=by
  intro J pX xs dX m N sJ hX hdX lX hat hN
  have lxs:=hdX.length
  rw [List.length_map] at lxs
  refine ⟨_,rfl,_,rfl,r,_,_,_,rfl,rfl,SqT.of (sJ _ _ k1),hat,pX,rfl,⟨_,SqT.of (sJ _ _ hX)⟩,comp_tupG (xs:=xs) (fun j zs J'=>J=J'/\zs=((dX.take j).map Prod.snd).map V.int) ⟨rfl,rfl⟩ ?_ ?_ ?_ ?_⟩
  ·rintro j zs J' _ ⟨rfl,_⟩
   exact SqT.of (sJ _ _ hX)
  ·rintro j zs J' hj ⟨rfl,rfl⟩
   rw [List.length_map,List.length_map,List.length_take]
   exact y_b (by lia)
  ·rintro j x zs J' os' hos' hx ⟨rfl,rfl⟩
   obtain ⟨y1,y2,rfl⟩:=two_ad hos'
   obtain ⟨dd,hdd,hxd⟩:=hdX.get hx
   rw [List.getElem?_map] at hdd
   obtain ⟨dr,hdr,rfl⟩:=Option.map_eq_some_iff.mp hdd
   obtain ⟨ra,rfl,hra⟩:=door_atG (hxd.same sJ)
   refine ⟨ra,_,rfl,SqT.of hra,rfl,_,_,rfl,_,_,rfl,rfl,?_⟩
   unfold tYes
   refine iteT ⟨_,rfl,rfl,?_⟩
   rw [z_y hdr,List.map_append,List.map_append]
   rfl
  ·rintro zs J' ⟨rfl,rfl⟩ p hp
   rw [<-lxs,List.take_length]
   exact hN p hp
 refine ⟨p0,rfl,⟨_,SqL.of g0⟩,comp_list (xs:=[.int 1,.int 2]) (fun i ys H'=>Same H0 H'/\∃ as:List Addr,ys=as.map V.ref/\Pw H' as ([q'.ins.map Prod.snd,q'.outs.map Prod.snd].take i)/\∀ a∈as,H a=none) ⟨Same.refl _,[],rfl,.nil,(fun _ h=>nomatch h)⟩ ?_ ?_ ?_ ?_⟩
 ·rintro i ys H' _ ⟨s',_⟩
  exact SqL.of (s' _ _ g0)
 ·rintro i ys H' hi ⟨_,as,rfl,hp,_⟩
  have:=Paired.length hp
  rw [List.length_take] at this
  rw [List.length_map]
  have h2:i<2:=hi
  exact y_b (by lia)
 ·rintro i y ys H' hy ⟨s',as,rfl,hp,hfr⟩
  unfold tYes
  have frs':∀ p,H' p=none->∀ a∈as++[p],H a=none:=fun p hp' a ha=>by
   rcases List.mem_append.mp ha with h | h
   ·exact hfr a h
   ·rw [List.mem_singleton.mp h]
    exact (u0.trans s').free hp'
  have sH:=u0.trans s'
  have hi:i<2:=(List.getElem?_eq_some_iff.mp hy).1
  have h01:i=0\/i=1:=by lia
  rcases h01 with rfl | rfl
  ·cases hy
   refine iteT (side H' pd ds q'.ins 1 _ sH k2 d1 il rfl fun p hp'=>?_)
   exact ⟨s'.trans (z_c hp' _),as++[p],by rw [List.map_append];rfl,pairedSn (ys:=[]) (pairedMono (fun _ _ e=>(z_c hp' _) _ _ e) hp) (.cons z_b .nil),frs' p hp'⟩
  ·cases hy
   refine iteT (side H' po os q'.outs 2 _ sH k3 d2 ol rfl fun p hp'=>?_)
   exact ⟨s'.trans (z_c hp' _),as++[p],by rw [List.map_append];rfl,pairedSn (ys:=[q'.ins.map Prod.snd]) (pairedMono (fun _ _ e=>(z_c hp' _) _ _ e) hp) (.cons z_b .nil),frs' p hp'⟩
 rintro ys H1 ⟨s1,as,rfl,hp,hfr⟩ pdr hpdr
 have hpdrH:=(u0.trans s1).free hpdr
 obtain ⟨a1,a2,rfl⟩:=two_ad (Paired.length hp)
 have f1:H1 a1=some (.lst ((q'.ins.map Prod.snd).map V.int)):=by cases hp with | cons h _=>exact h
 have f2:H1 a2=some (.lst ((q'.outs.map Prod.snd).map V.int)):=by
  cases hp with
  | cons _ h=>cases h with | cons h _=>exact h
 have u2:=(u0.trans s1).trans (z_c hpdr (.lst [.ref a1,.ref a2]))
 have e1:=(z_c hpdr (.lst [.ref a1,.ref a2])) _ _ f1
 have e2:=(z_c hpdr (.lst [.ref a1,.ref a2])) _ _ f2
 have e0:=z_b (H:=H1) (a:=pdr) (o:=.lst [.ref a1,.ref a2])
 dsimp only [gName]
 show tSeq _ _ _ _ (upd H1 pdr (.lst [.ref a1,.ref a2]))
 generalize upd H1 pdr (.lst [.ref a1,.ref a2])=H2 at u2 e0 e1 e2 ⊢
 clear hp f1 f2 s1 u0 g0 hp0 hpdr side
 have b2:=(hb.same u2).2
 have ha1:=hfr a1 List.mem_cons_self
 have ha2:=hfr a2 (List.mem_cons_of_mem _ List.mem_cons_self)
 have n0:pdr≠l:=fun e=>by obtain ⟨c0,c1,e3,_⟩:=b2;rw [e,e3] at e0;cases e0
 refine asg_c ?_
 show tSeq (tIfS _ _ _) _ _ [some (.ref l),some (.ref r),some (.ref sz),some (.ref np),some (.ref wd),some (.ref lf),some (.ref pdr),some (.int 1),none,none,none,none,none,none] H2
 refine seq_have (fun σ H'=>∃ many:Int,σ=[some (.ref l),some (.ref r),some (.ref sz),some (.ref np),some (.ref wd),some (.ref lf),some (.ref pdr),some (.int many),none,none,none,none,none,none]/\Bg l H2 H'/\1<=many/\many<=8/\(many=1\/q'.ins.map Prod.snd=q'.outs.map Prod.snd)) ?_ ?_
 ·intro fin
  have eqE:PyData.eqv (.list ((q'.ins.map Prod.snd).map PyData.int)) (.list ((q'.outs.map Prod.snd).map PyData.int))=decide (q'.ins.map Prod.snd=q'.outs.map Prod.snd):=eqvAll_ints _ _
  refine ⟨_,rfl,pdr,_,_,_,rfl,rfl,SqL.of e0,rfl,_,rfl,pdr,_,_,_,rfl,rfl,SqL.of e0,rfl,⟨_,_,RdD.lst (SqL.of e1) (RdDs.ints _),RdD.lst (SqL.of e2) (RdDs.ints _),(Cmp.list (n:=0) (Cmp.ints _)).mono (by decide),(Cmp.list (n:=0) (Cmp.ints _)).mono (by decide),_,rfl,?_⟩⟩
  rw [eqE,Bool.false_xor]
  by_cases hw:q'.ins.map Prod.snd=q'.outs.map Prod.snd
  ·rw [decide_eq_true hw]
   refine iteT ⟨_,rfl,l,4,rfl,b2,by decide,by decide,fun c H3 c0 c1 g3=>⟨_,_,rfl,rfl,_,rfl,?_⟩⟩
   refine ite2 (fun cc=>?_) (fun cc=>?_)
   ·refine ⟨_,rfl,l,8,rfl,g3.2,by decide,by decide,fun d H4 d0 d1' g4=>⟨_,_,rfl,rfl,?_⟩⟩
    exact fin _ _ ⟨1+d,rfl,g3.trans g4,by lia,by lia,.inr hw⟩
   ·exact fin _ _ ⟨1,rfl,g3,by decide,by decide,.inl rfl⟩
  ·rw [decide_eq_false hw]
   exact iteF (iteF (fin _ _ ⟨1,rfl,Bg.refl b2,by decide,by decide,.inl rfl⟩))
 rintro σ H3 ⟨many,rfl,g3,m1,m8,hmw⟩
 obtain ⟨kv,kw,ksh⟩:=gw.kw
 have nwl:=bag_dict hb hwd
 have G3:=(hb.same u2).trans g3
 have n1:a1≠l:=hb.ne ha1
 have n2:a2≠l:=hb.ne ha2
 have e03:=g3.1 _ _ n0 e0
 have e13:=g3.1 _ _ n1 e1
 have e23:=g3.1 _ _ n2 e2
 have fw3:=G3.1 _ _ nwl hwd
 clear e0 e1 e2 b2
 have w18:∀ w∈q'.ins.map Prod.snd,1<=w/\w<=8:=fun w hw=>by
  obtain ⟨d,hd,rfl⟩:=List.mem_map.mp hw
  exact (hq.ins d hd).2
 have lwi:(q'.ins.map Prod.snd).length=q'.ins.length:=List.length_map _
 generalize q'.ins.map Prod.snd=wi at e13 hmw w18 lwi
 refine ⟨_,rfl,pdr,_,_,_,rfl,rfl,SqL.of e03,rfl,a1,rfl,⟨_,SqL.of e13⟩,comp_list (xs:=wi.map V.int) (fun i ys H'=>Bg l H3 H'/\∃ ss:List PyData,Dats H' ss ys/\ss.length=i/\∀ s∈ss,SayD 5 s) ⟨Bg.refl g3.2,[],.nil,rfl,(fun _ h=>nomatch h)⟩ ?_ ?_ ?_ ?_⟩
 ·rintro i ys H' _ ⟨g,_⟩
  exact SqL.of (g.1 _ _ n1 e13)
 ·rintro i ys H' hi ⟨_,ss,hy,hl,_⟩
  have:=hy.length
  rw [List.length_map] at hi
  exact y_b (by lia)
 ·rintro i y ys H' hy ⟨g,ss,hys,hl,hs⟩
  rw [List.getElem?_map] at hy
  obtain ⟨w0,hw0,rfl⟩:=Option.map_eq_some_iff.mp hy
  obtain ⟨wa,wb⟩:=w18 w0 (List.mem_of_getElem? hw0)
  unfold tYes
  refine iteT ⟨_,rfl,_,rfl,_,rfl,3,by decide,l,wd,kvs,kv,w0,3,rfl,by decide,g.2,g.1 _ _ nwl fw3,kw,gw.1.up (by lia),wa,wb,by decide,fun dd v H5 tp hDd g5=>?_⟩
  refine ⟨g.trans g5,ss++[dd],(hys.keepT (g5.keepT g.2) (z_u fun s h=>(hs s h).noL)).append (.cons hDd .nil),by rw [List.length_append,hl];rfl,fun s h=>?_⟩
  rcases List.mem_append.mp h with h | h
  ·exact hs s h
  ·rw [List.mem_singleton.mp h]
   exact (tp.say ksh).up (by decide)
 rintro ys H4 ⟨g4,ss,hys,hsl,hs⟩ p4 hp4
 rw [List.length_map] at hsl
 have lys:=hys.length
 have t5:=z_c hp4 (.lst ys)
 refine ⟨p4,_,rfl,.inl ⟨SqL.of z_b,fun pt hpt=>?_⟩⟩
 have t6:=t5.trans (z_c hpt (.tup ys))
 have ft:=z_b (H:=upd H4 p4 (.lst ys)) (a:=pt) (o:=.tup ys)
 generalize upd (upd H4 p4 (.lst ys)) pt (.tup ys)=H6 at t6 ft ⊢
 have hys6:=hys.same t6
 dsimp only [gName]
 refine ⟨_,rfl,pt,rfl,⟨_,SqT.of ft⟩,comp_tup (xs:=ys) (fun i zs H'=>Same H6 H'/\∃ ns:List Int,zs=ns.map V.int/\ns.length=i) ⟨Same.refl _,[],rfl,rfl⟩ ?_ ?_ ?_ ?_⟩
 ·rintro i zs H' _ ⟨s',_⟩
  exact SqT.of (s' _ _ ft)
 ·rintro i zs H' hi ⟨_,ns,rfl,hn'⟩
  rw [List.length_map]
  exact y_b (by lia)
 ·rintro i y zs H' hy ⟨s',ns,rfl,hn'⟩
  obtain ⟨sd,hsd,hyd⟩:=hys6.get hy
  unfold tYes
  refine iteT ⟨_,rfl,sd,y,rfl,hs sd (List.mem_of_getElem? hsd),hyd.same s',fun c H3 c1 c7 s3=>?_⟩
  exact ⟨s'.trans s3,ns++[c],by rw [List.map_append];rfl,by rw [List.length_append,hn'];rfl⟩
 rintro zs7 H7 ⟨s7,ns7,rfl,hn7⟩ p7 hp7
 have t8:=(t6.trans s7).trans (z_c hp7 (.lst (ns7.map V.int)))
 have ft8:=(s7.trans (z_c hp7 (.lst (ns7.map V.int)))) _ _ ft
 refine ⟨rfl,p7,ns7,rfl,SqL.of z_b,?_⟩
 dsimp only [gName]
 generalize ns7.sum=first
 generalize upd H7 p7 (.lst (ns7.map V.int))=H8 at t8 ft8 ⊢
 have g8:=g4.trans (g4.2.same t8)
 have G8:=G3.trans g8
 have hD8:=Dat.keepT (G8.keepT hb) nLq hD
 have hsz8:=G8.1 _ _ nsl hsz
 have hys8:=hys.same t8
 have hlf8:=G8.1 _ _ nfl hlf
 have nwn:wd≠np:=lst_dict hn.1 hwd
 have hn8:=G8.1 _ _ npl hn.1
 have hw8:=G8.1 _ _ nwl hwd
 have e08:=g8.1 _ _ n0 e03
 have e18:=g8.1 _ _ n1 e13
 have e28:=g8.1 _ _ n2 e23
 have hr8:=(G8.keepT hb) _ _ k1
 have T8:=G8.keepT hb
 clear e03 e13 e23 fw3 hys t6 t5 hys6 ft s7 t8 g4 g3 G3 hp4 hp7 hpt u2
 refine ⟨_,rfl,_,rfl,_,rfl,_,rfl,q',.ref r,sz,s0,s1,many,first,rfl,hD8,hsz8,m1,m8,fun pc0 hpc0=>?_⟩
 dsimp only [gName]
 refine seq_have (fun σ H'=>∃ (mn:Int) (pc:Addr),σ=[some (.ref l),some (.ref r),some (.ref sz),some (.ref np),some (.ref wd),some (.ref lf),some (.ref pdr),some (.int mn),some (.ref pt),some (.int first),some (.ref pc),none,none,none]/\Same H8 H'/\H8 pc=none/\H' pc=some (.lst ((costL q' s0 s1 mn first).map V.int))/\1<=mn/\mn<=many) ?_ ?_
 ·intro fin
  refine ⟨fun m σ H'=>∃ (mn:Int) (pc:Addr),σ=[some (.ref l),some (.ref r),some (.ref sz),some (.ref np),some (.ref wd),some (.ref lf),some (.ref pdr),some (.int mn),some (.ref pt),some (.int first),some (.ref pc),none,none,none]/\Same H8 H'/\H8 pc=none/\H' pc=some (.lst ((costL q' s0 s1 mn first).map V.int))/\1<=mn/\mn<=many/\m=mn.toNat,⟨_,many,pc0,rfl,z_c hpc0 _,hpc0,z_b,m1,Int.le_refl _,rfl⟩,?_⟩
  rintro m σ J ⟨mn,pc,rfl,sJ,hpc,fc,k1',k2',rfl⟩
  have flJ:=sJ _ _ hlf8
  refine ⟨_,rfl,_,_,rfl,rfl,_,rfl,?_⟩
  refine ite2 (fun c1=>?_) (fun c1=>iteF (fin _ _ ⟨mn,pc,rfl,sJ,hpc,fc,k1',k2'⟩))
  have c1:=of_decide_eq_true c1
  refine ⟨_,rfl,pc,_,_,_,rfl,rfl,SqL.of fc,rfl,_,rfl,lf,_,_,_,rfl,rfl,SqL.of flJ,rfl,_,_,rfl,rfl,_,rfl,?_⟩
  refine ite2 (fun cA=>iteT ?_) (fun cA=>?_)
  ·refine ⟨_,fun σ' H' h=>⟨(mn-1).toNat,by lia,h⟩,?_⟩
   refine ⟨_,rfl,_,_,rfl,rfl,?_⟩
   refine ⟨_,rfl,_,rfl,_,rfl,_,rfl,q',.ref r,sz,s0,s1,mn-1,first,rfl,hD8.same sJ,sJ _ _ hsz8,by lia,by lia,fun p hp=>?_⟩
   exact ⟨mn-1,p,rfl,sJ.trans (z_c hp _),sJ.free hp,z_b,by lia,by lia,rfl⟩
  ·refine ⟨_,rfl,pc,_,_,_,rfl,rfl,SqL.of fc,rfl,_,rfl,lf,_,_,_,rfl,rfl,SqL.of flJ,rfl,_,_,rfl,rfl,_,rfl,?_⟩
   refine ite2 (fun cB=>?_) (fun cB=>fin _ _ ⟨mn,pc,rfl,sJ,hpc,fc,k1',k2'⟩)
   refine ⟨_,fun σ' H' h=>⟨(mn-1).toNat,by lia,h⟩,?_⟩
   refine ⟨_,rfl,_,_,rfl,rfl,?_⟩
   refine ⟨_,rfl,_,rfl,_,rfl,_,rfl,q',.ref r,sz,s0,s1,mn-1,first,rfl,hD8.same sJ,sJ _ _ hsz8,by lia,by lia,fun p hp=>?_⟩
   exact ⟨mn-1,p,rfl,sJ.trans (z_c hp _),sJ.free hp,z_b,by lia,by lia,rfl⟩
 rintro σ H9 ⟨mn,pc,rfl,s9,hpc,fc9,k1',k2'⟩
 have G9:=G8.trans (G8.2.same s9)
 have fl9:=s9 _ _ hlf8
 have fn9:=s9 _ _ hn8
 have fw9:=s9 _ _ hw8
 have hpcH:=(bgFree G8 hpc).2
 have hmn:mn=1\/wi=q'.outs.map Prod.snd:=by
  rcases hmw with h | h
  ·exact .inl (by lia)
  ·exact .inr h
 have nf:∀ {a:Addr},H a=none->a∉[l,np,wd]:=fun {a} h=>by
  simp only [List.mem_cons,List.not_mem_nil,or_false,not_or]
  exact ⟨hb.ne h,(z_g hn.1 h).symm,(z_g hwd h).symm⟩
 refine ⟨_,rfl,pc,_,_,_,rfl,rfl,SqL.of fc9,rfl,_,rfl,lf,_,_,_,rfl,rfl,SqL.of fl9,rfl,_,_,rfl,rfl,_,rfl,?_⟩
 refine ite2 (fun cA=>iteT (qN _ G9)) (fun cA=>?_)
 refine ⟨_,rfl,pc,_,_,_,rfl,rfl,SqL.of fc9,rfl,_,rfl,lf,_,_,_,rfl,rfl,SqL.of fl9,rfl,_,_,rfl,rfl,_,rfl,?_⟩
 refine ite2 (fun cB=>iteT (qN _ G9)) (fun cB=>?_)
 refine ⟨_,rfl,_,_,rfl,.inl ⟨_,SqL.of fn9,rfl⟩,_,_,rfl,rfl,_,rfl,?_⟩
 refine ite2 (fun cC=>qN _ G9) (fun cC=>?_)
 have hcost:mn*((q'.ins.length:Int)+s0)+(q'.outs.length:Int)<=f0:=by
  rw [decide_eq_true_iff] at cA
  lia
 have l9:9<=zs.length:=by
  rw [decide_eq_true_iff,List.length_map] at cC
  lia
 clear cA cB cC
 have e09:=s9 _ _ e08
 have e19:=s9 _ _ e18
 have e29:=s9 _ _ e28
 have hys9:=hys8.same s9
 have ft9:=s9 _ _ ft8
 have hr9:=s9 _ _ hr8
 have lx:((q'.outs.map Prod.snd).map V.int).length=q'.outs.length:=by rw [List.length_map,List.length_map]
 refine ⟨_,rfl,pdr,_,_,_,rfl,rfl,SqL.of e09,rfl,a2,rfl,⟨_,SqL.of e29⟩,comp_list (xs:=(q'.outs.map Prod.snd).map V.int) (fun i ys H'=>Kps [l,np,wd] H9 H'/\Bag H' l/\H' wd=some (.dK kvs)/\ys=(zs.take i).map V.str/\H' np=some (.lst ((zs.drop i).map V.str))) ⟨Kps.refl,G9.2,fw9,rfl,fn9⟩ ?_ ?_ ?_ ?_⟩
 ·rintro i ys H' _ ⟨k',_⟩
  exact SqL.of (k' _ _ (nf ha2) e29)
 ·rintro i ys H' hi ⟨_,_,_,rfl,_⟩
  rw [List.length_map,List.length_take]
  exact y_b (by lia)
 ·rintro i y ys H' hy ⟨k',b',w',rfl,fn'⟩
  have hi:=(List.getElem?_eq_some_iff.mp hy).1
  obtain ⟨z,hz⟩:∃ z,zs[i]? = some z:=⟨zs[i]'(by lia),List.getElem?_eq_getElem _⟩
  have ez:zs.drop i=z::zs.drop (i+1):=by
   obtain ⟨h,rfl⟩:=List.getElem?_eq_some_iff.mp hz
   exact List.drop_eq_getElem_cons h
  rw [ez] at fn'
  unfold tYes
  refine iteT ⟨_,rfl,.inl ⟨rfl,_,SqL.of fn'⟩,np,_,_,_,_,rfl,rfl,fn',by decide,by decide,pop0,rfl,?_⟩
  refine ⟨k'.set (by simp) _,b'.set npl _,by rw [z_j nwn];exact w',?_,z_b⟩
  rw [z_y hz,List.map_append]
  rfl
 rintro ys10 H10 ⟨k10,b10,fw10,rfl,fn10⟩ p10 hp10
 rw [lx] at fn10 ⊢
 have t11:=z_c hp10 (.lst ((zs.take q'.outs.length).map V.str))
 refine ⟨p10,_,rfl,.inl ⟨SqL.of z_b,fun po hpo=>?_⟩⟩
 have hpoH:H po=none:=by
  refine Kps.free (G9.kps (List.mem_cons_self) |>.trans (k10.trans t11.kps)) hpo ?_
  simp only [List.mem_cons,List.not_mem_nil,or_false,not_or]
  exact ⟨(b10.same t11).2.ne hpo,(z_g (t11 _ _ fn10) hpo).symm,(z_g (t11 _ _ fw10) hpo).symm⟩
 have t12:=t11.trans (z_c hpo (.tup ((zs.take q'.outs.length).map V.str)))
 have fo12:=z_b (H:=upd H10 p10 (.lst ((zs.take q'.outs.length).map V.str))) (a:=po) (o:=.tup ((zs.take q'.outs.length).map V.str))
 dsimp only [gName]
 generalize upd (upd H10 p10 (.lst ((zs.take q'.outs.length).map V.str))) po (.tup ((zs.take q'.outs.length).map V.str))=H12 at t12 fo12 ⊢
 have k12:=k10.trans t12.kps
 have b12:=(b10.same t12).2
 have fn12:=t12 _ _ fn10
 have fw12:=t12 _ _ fw10
 clear k10 b10 fn10 fw10 t11 t12 hp10 hpo
 have T12:=keep3 k12 G9.2 fn9 fw9
 have e012:=k12 _ _ (nf hpdrH) e09
 have e112:=k12 _ _ (nf ha1) e19
 have e212:=k12 _ _ (nf ha2) e29
 have hpo12:po∉[l,np,wd]:=nf hpoH
 have los':(zs.take q'.outs.length).length=q'.outs.length:=by rw [List.length_take];lia
 obtain ⟨os,hos⟩:∃ os,os=zs.take q'.outs.length:=⟨_,rfl⟩
 obtain ⟨zr,hzr⟩:∃ zr,zr=zs.drop q'.outs.length:=⟨_,rfl⟩
 have hzo:zs=os++zr:=by rw [hos,hzr,List.take_append_drop]
 have hzrl:6<=zr.length:=by rw [hzr,List.length_drop];lia
 rw [<-hos] at los' fo12
 rw [<-hzr] at fn12
 have w18o:∀ w∈q'.outs.map Prod.snd,1<=w/\w<=8:=fun w hw=>by
  obtain ⟨d,hd,rfl⟩:=List.mem_map.mp hw
  exact (hq.outs d hd).2
 refine ⟨_,rfl,_,rfl,pdr,_,_,_,rfl,rfl,SqL.of e012,rfl,po,a2,rfl,⟨_,SqT.of fo12⟩,⟨_,SqL.of e212⟩,for_zipm (xs:=os.map V.str) (ys:=(q'.outs.map Prod.snd).map V.int) (fun i σ H'=>∃ (x12 x13:Option V) (kvs':List (Key×V)),σ=[some (.ref l),some (.ref r),some (.ref sz),some (.ref np),some (.ref wd),some (.ref lf),some (.ref pdr),some (.int mn),some (.ref pt),some (.int first),some (.ref pc),some (.ref po),x12,x13]/\Kps [l,np,wd] H12 H'/\Bag H' l/\H' np=some (.lst (zr.map V.str))/\H' wd=some (.dK kvs')/\Wd kvs' (mk+i)/\(i=0->kvs'=kvs)) ⟨_,_,kvs,rfl,Kps.refl,b12,fn12,fw12,gw,fun _=>rfl⟩ ?_ (by rw [lx,List.length_map];exact los') ?_ ?_⟩
 ·rintro i σ H' ⟨_,_,_,rfl,k',_⟩
  exact ⟨SqT.of (k' _ _ hpo12 fo12),SqL.of (k' _ _ (nf ha2) e212)⟩
 ·rintro i x y p σ H' hx hy ⟨x12,x13,kvs',rfl,k',b',fn',fw',gw',_⟩ hp
  rw [List.getElem?_map] at hx hy
  obtain ⟨z,hz,rfl⟩:=Option.map_eq_some_iff.mp hx
  obtain ⟨w0,hw0,rfl⟩:=Option.map_eq_some_iff.mp hy
  obtain ⟨wa,wb⟩:=w18o w0 (List.mem_of_getElem? hw0)
  have hzm:z∈zs:=by rw [hzo];exact List.mem_append_left _ (List.mem_of_getElem? hz)
  have hzS:=(hn.2.1 z hzm).1
  have t1:=z_c hp (.tup [.str z,.int w0])
  have hkl:=gw'.1.2.2
  have hi3:i<3:=by have:=(List.getElem?_eq_some_iff.mp hz).1;lia
  refine ⟨p,_,rfl,SqT.of z_b,rfl,_,_,rfl,_,_,rfl,rfl,?_⟩
  generalize upd H' p (.tup [.str z,.int w0])=J1 at t1 ⊢
  refine ⟨_,rfl,_,rfl,_,rfl,wd,_,rfl,DPut.k (k:=.inr z) (v:=.int w0) (t1 _ _ fw') (y_b (by lia)),?_⟩
  refine ⟨_,_,putK kvs' (.inr z) (.int w0),rfl,(k'.trans t1.kps).set (by simp) _,(b'.same t1).2.set nwl _,by rw [z_j nwn.symm];exact t1 _ _ fn',z_b,gw'.put hzS wa wb,fun h=>absurd h (Nat.succ_ne_zero _)⟩
 rintro σ H13 ⟨x12,x13,kvs',rfl,k13,b13,fn13,fw13,gw13,hk13⟩
 rw [List.length_map] at gw13 hk13
 have T13:=keep3 k13 b12 fn12 fw12
 have e013:=k13 _ _ (nf hpdrH) e012
 have e113:=k13 _ _ (nf ha1) e112
 have e213:=k13 _ _ (nf ha2) e212
 have fo13:=k13 _ _ hpo12 fo12
 have fc13:=k13 _ _ (nf hpcH) (k12 _ _ (nf hpcH) fc9)
 have nLs:noLs ss=true:=z_u fun s h=>(hs s h).noL
 have hys13:=(hys9.keepT T12 nLs).keepT T13 nLs
 have ft13:=T13 _ _ (T12 _ _ ft9)
 have hr13:=T13 _ _ (T12 _ _ hr9)
 have K13:Kps [l,np,wd] H H13:=(G9.kps List.mem_cons_self).trans (k12.trans k13)
 clear k13 T13 T12 k12 e012 e112 e212 fo12 fn12 fw12 b12 hys9 ft9 hr9 e09 e19 e29 fc9 fl9 fn9 fw9 s9 G9 hys8 ft8 hr8 e08 e18 e28 hlf8 hn8 hw8 hD8 hsz8 g8 G8 T8
 obtain ⟨zs',lb,hzl⟩:∃ zs' lb,zr=zs'++[lb]:=⟨zr.dropLast,zr.getLast (fun e=>by rw [e] at hzrl;exact absurd hzrl (by decide)),(List.dropLast_concat_getLast _).symm⟩
 have hzz:zs=os++zs'++[lb]:=by rw [hzo,hzl,List.append_assoc]
 rw [hzl,List.map_append] at fn13
 have hpop:∀ (A:List V) (x:V),(A++[x])[(A++[x]).length-1]? = some x:=fun A x=>by rw [List.length_append];simp
 have hg:=hpop (zs'.map V.str) (.str lb)
 have nd:=hn.2.2.1
 have l24:=hn.2.2.2
 have hN:∀ J:Hp,J np=some (.lst (zs'.map V.str))->NmsD J np zs':=fun J e=>by
  refine ⟨e,fun z h=>hn.2.1 z (by rw [hzz];exact List.mem_append_left _ (List.mem_append_right _ h)),?_,?_⟩
  ·rw [hzz] at nd
   exact (List.pairwise_append.mp (List.pairwise_append.mp nd).1).2.1
  ·rw [hzz,List.length_append,List.length_append] at l24
   lia
 have hoS:∀ o∈os,Sh o:=fun o h=>(hn.2.1 o (by rw [hzo];exact List.mem_append_left _ h)).1
 have hsl':ss.length=q'.ins.length:=by lia
 have eqE:PyData.eqv (.list (wi.map PyData.int)) (.list ((q'.outs.map Prod.snd).map PyData.int))=decide (wi=q'.outs.map Prod.snd):=eqvAll_ints _ _
 have hk0:os=[]->kvs'=kvs:=fun e=>hk13 (by rw [e];rfl)
 dsimp only
 refine seq_have (fun σ H'=>(σ=[some (.ref l),some (.ref r),some (.ref sz),some (.ref np),some (.ref wd),some (.ref lf),some (.ref pdr),some (.int mn),some (.ref pt),some (.int first),some (.ref pc),some (.ref po),x12,x13]/\Bg l H13 H'/\q'.ins.length=q'.outs.length)) ?_ ?_
 ·intro fin
  refine ⟨_,rfl,pdr,_,_,_,rfl,rfl,SqL.of e013,rfl,_,rfl,pdr,_,_,_,rfl,rfl,SqL.of e013,rfl,⟨_,_,RdD.lst (SqL.of e113) (RdDs.ints _),RdD.lst (SqL.of e213) (RdDs.ints _),(Cmp.list (n:=0) (Cmp.ints _)).mono (by decide),(Cmp.list (n:=0) (Cmp.ints _)).mono (by decide),_,rfl,?_⟩⟩
  rw [eqE,Bool.true_xor]
  by_cases hw:wi=q'.outs.map Prod.snd
  ·rw [decide_eq_true hw]
   refine iteF ?_
   have heq:q'.ins.length=q'.outs.length:=by rw [<-lwi,hw,List.length_map]
   refine ⟨_,rfl,rfl,_,rfl,?_⟩
   refine ite2 (fun cm=>?_) (fun cm=>iteF (fin _ _ ⟨rfl,Bg.refl b13,heq⟩))
   refine ⟨_,rfl,l,3,rfl,b13,by decide,by decide,fun d J d0 d1 gJ=>⟨_,_,rfl,rfl,_,rfl,?_⟩⟩
   refine ite2 (fun cd=>?_) (fun cd=>fin _ _ ⟨rfl,gJ,heq⟩)
   have hm1:mn=1:=by have:=of_decide_eq_true cm;cases this;rfl
   obtain ⟨fn14,fw14⟩:J np=some (.lst (zs'.map V.str++[V.str lb]))/\J wd=some (.dK kvs'):=⟨gJ.1 _ _ npl fn13,gJ.1 _ _ nwl fw13⟩
   have TJ:=gJ.keepT b13
   have hysJ:=hys13.keepT TJ nLs
   have foJ:=TJ _ _ fo13
   have ftJ:=TJ _ _ ft13
   have hrJ:=TJ _ _ hr13
   have fcJ:=gJ.1 _ _ (hb.ne hpcH) fc13
   have KJ:Kps [l,np,wd] H J:=K13.trans (gJ.kps List.mem_cons_self)
   refine ⟨_,rfl,.inl ⟨rfl,_,SqL.of fn14⟩,np,_,_,rfl,rfl,fn14,hg,?_⟩
   have hdl:(zs'.map V.str++[V.str lb]).dropLast=zs'.map V.str:=List.dropLast_concat
   rw [hdl]
   have k15:=KJ.set (a:=np) (by simp) (.lst (zs'.map V.str))
   have b15:=gJ.2.set npl (.lst (zs'.map V.str))
   have fn15:=z_b (H:=J) (a:=np) (o:=.lst (zs'.map V.str))
   have fw15:(upd J np (.lst (zs'.map V.str))) wd=some (.dK kvs'):=by rw [z_j nwn];exact fw14
   have T15:=KeepT.lst fn14 (.lst (zs'.map V.str))
   have fc15:(upd J np (.lst (zs'.map V.str))) pc=some (.lst ((costL q' s0 s1 mn first).map V.int)):=by rw [z_j (z_g hn.1 hpcH).symm];exact fcJ
   have hys15:=hysJ.keepT T15 nLs
   have fo15:=T15 _ _ foJ
   have ft15:=T15 _ _ ftJ
   have hr15:=T15 _ _ hrJ
   show tCons _ _ _ (upd J np (.lst (zs'.map V.str))) _
   generalize upd J np (.lst (zs'.map V.str))=H15 at k15 b15 fn15 fw15 fc15 hys15 fo15 ft15 hr15 T15 ⊢
   refine ⟨_,rfl,r,_,_,_,rfl,rfl,SqT.of hr15,rfl,_,rfl,_,rfl,(by show 5<=sizeLine;decide),fun pu hpu=>⟨_,rfl,(by show 2<=sizeLine;decide),fun t ht=>?_⟩⟩
   have t16:=z_c hpu (.tup [.str "part",.str lb,.str q'.nm,.ref pt,.ref po])
   have fu16:=z_b (H:=H15) (a:=pu) (o:=.tup [.str "part",.str lb,.str q'.nm,.ref pt,.ref po])
   generalize upd H15 pu (.tup [.str "part",.str lb,.str q'.nm,.ref pt,.ref po])=H16 at t16 fu16 ht ⊢
   have t17:=t16.trans (z_c ht (.tup [.ref pu,.ref pc]))
   have du:Dat (upd H16 t (.tup [.ref pu,.ref pc])) (Rw.use none lb q'.nm ss os).dat (.ref pu):=Dat.tup ((z_c ht (.tup [.ref pu,.ref pc])) _ _ fu16) (.cons (Dat.str _) (.cons (Dat.str _) (.cons (Dat.str _) (.cons (Dat.tup (t17 _ _ ft15) (hys15.same t17)) (.cons (Dat.tup (t17 _ _ fo15) (Dats.strs os)) .nil)))))
   exact qT t (.ref pu) pc none lb ss os zs' kvs' mn first _ (k15.trans t17.kps) (b15.same t17).2 hzz (hN _ (t17 _ _ fn15)) (t17 _ _ fw15) gw13 hk0 ⟨hsl',los',hs,hoS,(fun n e=>nomatch e)⟩ (hm1) rfl hcost z_b hpcH (t17 _ _ fc15) du
  ·rw [decide_eq_false hw]
   refine iteT ?_
   have hm1:mn=1:=hmn.resolve_right hw
   have gJ:=Bg.refl b13
   obtain ⟨fn14,fw14⟩:H13 np=some (.lst (zs'.map V.str++[V.str lb]))/\H13 wd=some (.dK kvs'):=⟨gJ.1 _ _ npl fn13,gJ.1 _ _ nwl fw13⟩
   have TJ:=gJ.keepT b13
   have hysJ:=hys13.keepT TJ nLs
   have foJ:=TJ _ _ fo13
   have ftJ:=TJ _ _ ft13
   have hrJ:=TJ _ _ hr13
   have fcJ:=gJ.1 _ _ (hb.ne hpcH) fc13
   have KJ:Kps [l,np,wd] H H13:=K13.trans (gJ.kps List.mem_cons_self)
   refine ⟨_,rfl,.inl ⟨rfl,_,SqL.of fn14⟩,np,_,_,rfl,rfl,fn14,hg,?_⟩
   have hdl:(zs'.map V.str++[V.str lb]).dropLast=zs'.map V.str:=List.dropLast_concat
   rw [hdl]
   have k15:=KJ.set (a:=np) (by simp) (.lst (zs'.map V.str))
   have b15:=gJ.2.set npl (.lst (zs'.map V.str))
   have fn15:=z_b (H:=H13) (a:=np) (o:=.lst (zs'.map V.str))
   have fw15:(upd H13 np (.lst (zs'.map V.str))) wd=some (.dK kvs'):=by rw [z_j nwn];exact fw14
   have T15:=KeepT.lst fn14 (.lst (zs'.map V.str))
   have fc15:(upd H13 np (.lst (zs'.map V.str))) pc=some (.lst ((costL q' s0 s1 mn first).map V.int)):=by rw [z_j (z_g hn.1 hpcH).symm];exact fcJ
   have hys15:=hysJ.keepT T15 nLs
   have fo15:=T15 _ _ foJ
   have ft15:=T15 _ _ ftJ
   have hr15:=T15 _ _ hrJ
   show tCons _ _ _ (upd H13 np (.lst (zs'.map V.str))) _
   generalize upd H13 np (.lst (zs'.map V.str))=H15 at k15 b15 fn15 fw15 fc15 hys15 fo15 ft15 hr15 T15 ⊢
   refine ⟨_,rfl,r,_,_,_,rfl,rfl,SqT.of hr15,rfl,_,rfl,_,rfl,(by show 5<=sizeLine;decide),fun pu hpu=>⟨_,rfl,(by show 2<=sizeLine;decide),fun t ht=>?_⟩⟩
   have t16:=z_c hpu (.tup [.str "part",.str lb,.str q'.nm,.ref pt,.ref po])
   have fu16:=z_b (H:=H15) (a:=pu) (o:=.tup [.str "part",.str lb,.str q'.nm,.ref pt,.ref po])
   generalize upd H15 pu (.tup [.str "part",.str lb,.str q'.nm,.ref pt,.ref po])=H16 at t16 fu16 ht ⊢
   have t17:=t16.trans (z_c ht (.tup [.ref pu,.ref pc]))
   have du:Dat (upd H16 t (.tup [.ref pu,.ref pc])) (Rw.use none lb q'.nm ss os).dat (.ref pu):=Dat.tup ((z_c ht (.tup [.ref pu,.ref pc])) _ _ fu16) (.cons (Dat.str _) (.cons (Dat.str _) (.cons (Dat.str _) (.cons (Dat.tup (t17 _ _ ft15) (hys15.same t17)) (.cons (Dat.tup (t17 _ _ fo15) (Dats.strs os)) .nil)))))
   exact qT t (.ref pu) pc none lb ss os zs' kvs' mn first _ (k15.trans t17.kps) (b15.same t17).2 hzz (hN _ (t17 _ _ fn15)) (t17 _ _ fw15) gw13 hk0 ⟨hsl',los',hs,hoS,(fun n e=>nomatch e)⟩ (hm1) rfl hcost z_b hpcH (t17 _ _ fc15) du
 rintro σ J ⟨rfl,gJ,heq⟩
 have ditm:∀ {J:Hp},Dat J (.int ((mn.toNat:Nat):Int)) (.int mn):=fun {J}=>by
  have e:((mn.toNat:Nat):Int)=mn:=by lia
  rw [e]
  exact Dat.int _
 obtain ⟨fn14,fw14⟩:J np=some (.lst (zs'.map V.str++[V.str lb]))/\J wd=some (.dK kvs'):=⟨gJ.1 _ _ npl fn13,gJ.1 _ _ nwl fw13⟩
 have TJ:=gJ.keepT b13
 have hysJ:=hys13.keepT TJ nLs
 have foJ:=TJ _ _ fo13
 have ftJ:=TJ _ _ ft13
 have hrJ:=TJ _ _ hr13
 have fcJ:=gJ.1 _ _ (hb.ne hpcH) fc13
 have KJ:Kps [l,np,wd] H J:=K13.trans (gJ.kps List.mem_cons_self)
 refine ⟨_,rfl,_,rfl,.inl ⟨rfl,_,SqL.of fn14⟩,np,_,_,rfl,rfl,fn14,hg,?_⟩
 have hdl:(zs'.map V.str++[V.str lb]).dropLast=zs'.map V.str:=List.dropLast_concat
 rw [hdl]
 have k15:=KJ.set (a:=np) (by simp) (.lst (zs'.map V.str))
 have b15:=gJ.2.set npl (.lst (zs'.map V.str))
 have fn15:=z_b (H:=J) (a:=np) (o:=.lst (zs'.map V.str))
 have fw15:(upd J np (.lst (zs'.map V.str))) wd=some (.dK kvs'):=by rw [z_j nwn];exact fw14
 have T15:=KeepT.lst fn14 (.lst (zs'.map V.str))
 have fc15:(upd J np (.lst (zs'.map V.str))) pc=some (.lst ((costL q' s0 s1 mn first).map V.int)):=by rw [z_j (z_g hn.1 hpcH).symm];exact fcJ
 have hys15:=hysJ.keepT T15 nLs
 have fo15:=T15 _ _ foJ
 have ft15:=T15 _ _ ftJ
 have hr15:=T15 _ _ hrJ
 show tCons _ _ _ (upd J np (.lst (zs'.map V.str))) _
 generalize upd J np (.lst (zs'.map V.str))=H15 at k15 b15 fn15 fw15 fc15 hys15 fo15 ft15 hr15 T15 ⊢
 refine ⟨_,rfl,r,_,_,_,rfl,rfl,SqT.of hr15,rfl,_,rfl,_,rfl,(by show 6<=sizeLine;decide),fun pu hpu=>⟨_,rfl,(by show 2<=sizeLine;decide),fun t ht=>?_⟩⟩
 have t16:=z_c hpu (.tup [.str "times",.int mn,.str lb,.str q'.nm,.ref pt,.ref po])
 have fu16:=z_b (H:=H15) (a:=pu) (o:=.tup [.str "times",.int mn,.str lb,.str q'.nm,.ref pt,.ref po])
 generalize upd H15 pu (.tup [.str "times",.int mn,.str lb,.str q'.nm,.ref pt,.ref po])=H16 at t16 fu16 ht ⊢
 have t17:=t16.trans (z_c ht (.tup [.ref pu,.ref pc]))
 have du:Dat (upd H16 t (.tup [.ref pu,.ref pc])) (Rw.use (some mn.toNat) lb q'.nm ss os).dat (.ref pu):=Dat.tup ((z_c ht (.tup [.ref pu,.ref pc])) _ _ fu16) (.cons (Dat.str _) (.cons ditm (.cons (Dat.str _) (.cons (Dat.str _) (.cons (Dat.tup (t17 _ _ ft15) (hys15.same t17)) (.cons (Dat.tup (t17 _ _ fo15) (Dats.strs os)) .nil))))))
 exact qT t (.ref pu) pc (some mn.toNat) lb ss os zs' kvs' mn first _ (k15.trans t17.kps) (b15.same t17).2 hzz (hN _ (t17 _ _ fn15)) (t17 _ _ fw15) gw13 hk0 ⟨hsl',los',hs,hoS,(fun n e=>by cases e;exact ⟨⟨by lia,by lia⟩,heq⟩)⟩ (by show mn=((mn.toNat:Nat):Int);lia) rfl hcost z_b hpcH (t17 _ _ fc15) du
theorem ok_L_rows(T:Tx w K mg A)(G_L_take:FnOk P w K mg base CX0 1 A.a_L_take A.d_L_take ["_law_bag_here", "_law_many"] y_v)(G_L_use:FnOk P w K mg base CX0 10 A.a_L_use A.d_L_use ["_law_bag_here", "_law_part_here", "_law_size", "_law_names", "_law_widths", "_law_left"] sp_Luse)(G_L_typed:FnOk P w K mg base CX0 9 A.a_L_typed A.d_L_typed ["_law_bag_here", "_law_widths", "_law_width", "_law_deep", "_law_room"] (sp_typedN 4))(G_L_count:FnOk P w K mg base CX0 8 A.a_L_count A.d_L_count ["_law_saying"] (sp_count 5)):FnOk P w K mg base CX0 11 A.a_L_rows A.d_L_rows ["_law_bag_here", "_law_plan_here", "_law_sizes", "_law_names", "_law_widths", "_law_cap"] sp_rows9:=by
 refine T.F_L_rows.ok sc_L_rows (fun vs H Q E h=>?_) (fun cdv A' outer s H vs Q E hr h=>?_)
 ·obtain ⟨l,pl,sz,np,wd,cp,vs',Ps,zs,kvs,c0,c1,rfl,hb,hpl,hPs,hg,hP2,hsz,hn,h19,hwd,gw,hcp,hc0,npl,nll,nln,nsw,ncl,ncn,q⟩:=h
  rfl
 obtain ⟨l,pl,sz,np,wd,cp,vs',Ps,zs,kvs,c0,c1,rfl,hb,hpl,hPs,hg,hP2,hsz,hn,h19,hwd,gw,hcp,hc0,npl,nll,nln,nsw,ncl,ncn,q⟩:=h
 have hu:=hu_of hr
 refine ⟨_,(z_f (z_r (i:=6) sc_L_rows.nd rfl (Or.inl rfl) (y_h z_d))
  (z_f (z_r (i:=7) sc_L_rows.nd rfl (Or.inl rfl) (y_h (z_a z_e (z_a z_e z_d))))
  (z_f (x_e PassesOwn.never rfl (y_o rfl T.range (z_a (z_k G_L_take (hr.mono (by first | decide | lia)) rfl T.M_L_take T.F_L_take.kp T.B_L_take .nil pass0 (z_a (pv 0) (z_a z_e z_d))) z_d)) (z_v (i:=8) sc_L_rows.nd rfl (Or.inl rfl))
    (z_f (z_r (i:=9) sc_L_rows.nd rfl (Or.inl rfl) pe_non)
  (z_f (x_a (PW.pt (pw_and (z_s op_gt (z_p y_f rfl T.len PySem.boot_len (z_a (pv 1) z_d)) z_e (nomark _)) (pw_and1 (z_s op_lt (z_k G_L_take (hr.mono (by first | decide | lia)) rfl T.M_L_take T.F_L_take.kp T.B_L_take .nil pass0 (z_a (pv 0) (z_a z_e z_d))) z_e (nomark _))))) (z_f (z_r (i:=10) sc_L_rows.nd rfl (Or.inl rfl) (z_l z_x (pv 1) (z_k G_L_take (hr.mono (by first | decide | lia)) rfl T.M_L_take T.F_L_take.kp T.B_L_take .nil pass0 (z_a (pv 0) (z_a (z_p y_f rfl T.len PySem.boot_len (z_a (pv 1) z_d)) z_d))) (fun _ _=>rfl)))
  (z_i (z_r (i:=9) sc_L_rows.nd rfl (Or.inl rfl) (z_k G_L_use (hr.mono (by first | decide | lia)) rfl T.M_L_use T.F_L_use.kp T.B_L_use .nil pass0 (z_a (pv 0) (z_a (pv 10) (z_a (pe_dget hu (pv 2) (z_l z_n (pv 10) z_e (fun _ _=>rfl)) (fun _ _=>rfl)) (z_a (pv 3) (z_a (pv 4) (z_a (y_h (z_a (z_o op_sub (z_l z_x (pv 5) z_e (fun _ _=>rfl)) (z_l z_x (pv 7) z_e (fun _ _=>rfl))) (z_a (z_o op_sub (z_l z_x (pv 5) z_e (fun _ _=>rfl)) (z_l z_x (pv 7) z_e (fun _ _=>rfl))) z_d))) z_d)))))))))) y_a)
  (z_f (x_a (z_s op_isN (pv 9) pe_non (nomark _)) (z_f (z_r (i:=11) sc_L_rows.nd rfl (Or.inl rfl) (z_o y_k z_e (z_k G_L_take (hr.mono (by first | decide | lia)) rfl T.M_L_take T.F_L_take.kp T.B_L_take .nil pass0 (z_a (pv 0) (z_a z_e z_d)))))
  (z_f (z_r (i:=12) sc_L_rows.nd rfl (Or.inl rfl) (y_d (z_a z_t (z_a (pe_bmN PySem.F.plainAttrs_list PySem.F.slot_list_pop PySem.F.type_list_pop mt_popAt (pv 3) (z_a z_e z_d)) (z_a (pv 11) (z_a (z_k G_L_typed (hr.mono (by first | decide | lia)) rfl T.M_L_typed T.F_L_typed.kp T.B_L_typed .nil pass0 (z_a (pv 0) (z_a (pv 4) (z_a (pv 11) (z_a z_e (z_a z_e z_d)))))) z_d))))))
  (z_f (ps_dput hu (pv 4) (z_l z_n (pv 12) z_e (fun _ _=>rfl)) (pv 11) rfl)
  (z_i (z_r (i:=9) sc_L_rows.nd rfl (Or.inl rfl) (y_d (z_a (pv 12) (z_a (y_h (z_a z_e (z_a (z_k G_L_count (hr.mono (by first | decide | lia)) rfl T.M_L_count T.F_L_count.kp T.B_L_count .nil pass0 (z_a (z_l z_n (pv 12) z_e (fun _ _=>rfl)) z_d)) z_d))) z_d)))))))) y_a)
  (z_f (x_b (pe_bmN PySem.F.plainAttrs_list PySem.F.slot_list_insert PySem.F.type_list_insert mt_insert (pv 6) (z_a (z_k G_L_take (hr.mono (by first | decide | lia)) rfl T.M_L_take T.F_L_take.kp T.B_L_take .nil pass0 (z_a (pv 0) (z_a (z_o y_k (z_p y_f rfl T.len PySem.boot_len (z_a (pv 6) z_d)) z_e) z_d))) (z_a (z_l z_n (pv 9) z_e (fun _ _=>rfl)) z_d))))
  (z_i (z_r (i:=7) sc_L_rows.nd rfl (Or.inl rfl) (y_h (z_a (z_o y_k (z_l z_x (pv 7) z_e (fun _ _=>rfl)) (z_l z_x (z_l z_n (pv 9) z_e (fun _ _=>rfl)) z_e (fun _ _=>rfl))) (z_a (z_o y_k (z_l z_x (pv 7) z_e (fun _ _=>rfl)) (z_l z_x (z_l z_n (pv 9) z_e (fun _ _=>rfl)) z_e (fun _ _=>rfl))) z_d))))))))))
  (z_i (z_z (y_d (z_a (pv 6) (z_a (pv 7) z_d)))))))),?_⟩
 have nwl:wd≠l:=bag_dict hb hwd
 have nwn:wd≠np:=lst_dict hn.1 hwd
 have lvs:=hPs.length
 rw [List.length_map] at lvs
 have hj:=x_s hg
 have nLP:noLs (Ps.map Pt.dat)=true:=z_u fun d hd=>by
  obtain ⟨P,hP,rfl⟩:=List.mem_map.mp hd
  exact (hj P hP).noL
 have nf:∀ {a:Addr},H a=none->a∉[l,np,wd]:=fun {a} h=>by
  simp only [List.mem_cons,List.not_mem_nil,or_false,not_or]
  exact ⟨hb.ne h,(z_g hn.1 h).symm,(z_g hwd h).symm⟩
 have nz:sz∉[l,np,wd]:=by
  obtain ⟨ks,h1,_⟩:=hsz
  simp only [List.mem_cons,List.not_mem_nil,or_false,not_or]
  exact ⟨bag_dict hb h1,lst_dict hn.1 h1,nsw⟩
 have nlp:pl∉[l,np,wd]:=by
  simp only [List.mem_cons,List.not_mem_nil,or_false,not_or]
  exact ⟨nll,nln,(lst_dict hpl hwd).symm⟩
 have ncp:cp∉[l,np,wd]:=by
  simp only [List.mem_cons,List.not_mem_nil,or_false,not_or]
  exact ⟨ncl,ncn,(lst_dict hcp hwd).symm⟩
 refine ⟨(by show 0<=sizeLine;decide),fun pr hpr=>?_⟩
 have v0:=z_c hpr (.lst [])
 have fr0:=z_b (H:=H) (a:=pr) (o:=.lst [])
 show tSeq _ _ _ [some (.ref l),some (.ref pl),some (.ref sz),some (.ref np),some (.ref wd),some (.ref cp),some (.ref pr),none,none,none,none,none,none] (upd H pr (.lst []))
 generalize upd H pr (.lst [])=H0 at v0 fr0 ⊢
 refine ⟨(by show 2<=sizeLine;decide),fun ps hps=>?_⟩
 have v1:=v0.trans (z_c hps (.lst [.int 0,.int 0]))
 have fr1:=(z_c hps (.lst [.int 0,.int 0])) _ _ fr0
 have fs1:=z_b (H:=H0) (a:=ps) (o:=.lst [.int 0,.int 0])
 have nrs:pr≠ps:=z_g fr0 hps
 have hpsH:=v0.free hps
 show tSeq _ _ _ [some (.ref l),some (.ref pl),some (.ref sz),some (.ref np),some (.ref wd),some (.ref cp),some (.ref pr),some (.ref ps),none,none,none,none,none] (upd H0 ps (.lst [.int 0,.int 0]))
 generalize upd H0 ps (.lst [.int 0,.int 0])=H1 at v1 fr1 fs1 ⊢
 clear v0 fr0 hps
 have nrl:pr≠l:=hb.ne hpr
 have nrn:np≠pr:=z_g hn.1 hpr
 have nrw:wd≠pr:=z_g hwd hpr
 refine ⟨_,rfl,l,5,rfl,(hb.same v1).2,by decide,by decide,fun nd H2 n0 n1 g2=>⟨_,rfl,by lia,by lia,x_r (lo:=0) (fun i σ H'=>∃ (x8 x9 x10 x11 x12:Option V) (ps:Addr) (rows:List Rw) (Dn Ln z1:List Str) (kvs':List (Key×V)) (t0 t1:Int),σ=[some (.ref l),some (.ref pl),some (.ref sz),some (.ref np),some (.ref wd),some (.ref cp),some (.ref pr),some (.ref ps),x8,x9,x10,x11,x12]/\Kps [l,np,wd] H H'/\Bag H' l/\RN H' pr rows/\rows.length=i/\(∀ r∈rows,RwJ (lkL Ps) r)/\zs=Dn++z1++Ln/\(rows.flatMap defs).Perm Dn/\(rows.flatMap labs).Perm Ln/\19<=z1.length+4*i/\NmsD H' np z1/\H' wd=some (.dK kvs')/\Wd kvs' (5+3*i)/\((∀ r∈rows,defs r=[])->kvs'=kvs)/\H' ps=some (.lst [.int t0,.int t1])/\H ps=none/\pr≠ps/\t0=(((rows.flatMap (pthR (lkL Ps) (pthF (lkL Ps) Ps.length))).length:Nat):Int)/\t0<=c0+i) ⟨_,_,_,_,_,ps,[],[],[],zs,kvs,0,0,rfl,v1.kps.trans (g2.kps (by simp)),g2.2,⟨⟨[],g2.1 _ _ nrl fr1,.nil⟩,(fun _ h=>nomatch h)⟩,rfl,(fun _ h=>nomatch h),by simp,List.Perm.refl _,List.Perm.refl _,by lia,⟨g2.1 _ _ npl (v1 _ _ hn.1),hn.2⟩,g2.1 _ _ nwl (v1 _ _ hwd),gw,fun _=>rfl,g2.1 _ _ (hb.ne hpsH) fs1,hpsH,nrs,rfl,by show (0:Int)<=c0+((0:Nat):Int);lia⟩ ?_ ?_⟩⟩
 ·clear fr1 fs1 v1 nrs hpsH g2 ps H1 H2
  rintro i σ H1 hi ⟨x8,x9,x10,x11,x12,ps,rows,Dn,Ln,z1,kvs1,t0,t1,rfl,k1,b1,R1,hrl,hrJ,ezs,pD,pL,l19,nm1,fw1,gw1,hk1,fs1,hpsH,nrs,et0,ht0⟩
  have T1:=keep3 k1 hb hn.1 hwd
  have fpl1:=k1 _ _ nlp hpl
  have hPs1:=hPs.keepT T1 nLP
  have fcp1:=k1 _ _ ncp hcp
  have sz1:=hsz.kp k1 (fun _ h=>h) nz
  refine asg_c ?_
  show tSeq _ _ _ [some (.ref l),some (.ref pl),some (.ref sz),some (.ref np),some (.ref wd),some (.ref cp),some (.ref pr),some (.ref ps),some (.int (0+(i:Int))),some .non,x10,x11,x12] H1
  refine seq_have (fun σ H'=>(∃ y10:Option V,σ=[some (.ref l),some (.ref pl),some (.ref sz),some (.ref np),some (.ref wd),some (.ref cp),some (.ref pr),some (.ref ps),some (.int (0+(i:Int))),some .non,y10,x11,x12]/\Bg l H1 H')\/∃ (y10:Option V) (t cl:Addr) (vr:V) (e0 e1:Int) (r:Rw) (z2:List Str) (kvs2:List (Key×V)),σ=[some (.ref l),some (.ref pl),some (.ref sz),some (.ref np),some (.ref wd),some (.ref cp),some (.ref pr),some (.ref ps),some (.int (0+(i:Int))),some (.ref t),y10,x11,x12]/\Kps [l,np,wd] H1 H'/\Bag H' l/\z1=defs r++z2++labs r/\NmsD H' np z2/\H' wd=some (.dK kvs2)/\Wd kvs2 (5+3*(i+1))/\(defs r=[]->kvs2=kvs1)/\RwD Ps r e0/\t0+e0<=c0+((i+1:Nat):Int)/\H' t=some (.tup [vr,.ref cl])/\H1 cl=none/\H' cl=some (.lst [.int e0,.int e1])/\Dat H' r.dat vr) ?_ ?_
  ·intro fin
   refine ⟨_,rfl,_,_,rfl,.inl ⟨_,SqL.of fpl1,rfl⟩,_,_,rfl,rfl,_,rfl,?_⟩
   refine ite2 (fun cl=>?_) (fun cl=>iteF (fin _ _ (.inl ⟨_,rfl,Bg.refl b1⟩)))
   have cl:=of_decide_eq_true cl
   refine ⟨_,rfl,l,3,rfl,b1,by decide,by decide,fun d H3 d0 d1 g3=>⟨_,_,rfl,rfl,_,rfl,?_⟩⟩
   refine ite2 (fun _=>?_) (fun _=>fin _ _ (.inl ⟨_,rfl,g3⟩))
   have fpl3:=g3.1 _ _ nll fpl1
   refine ⟨_,rfl,_,rfl,_,rfl,_,_,rfl,.inl ⟨_,SqL.of fpl3,rfl⟩,l,_,rfl,g3.2,by lia,(by exact Int.lt_trans (show (vs'.length:Int)<100 by lia) (by decide)),fun e H4 e0 e1 g4=>?_⟩
   obtain ⟨e,rfl⟩:=Int.eq_ofNat_of_zero_le e0
   have g34:=g3.trans g4
   have fpl4:=g4.1 _ _ nll fpl3
   obtain ⟨v,hv⟩:∃ v,vs'[e]? = some v:=⟨vs'[e]'(by lia),List.getElem?_eq_getElem _⟩
   obtain ⟨dq,hdq,hvd⟩:=hPs1.get hv
   rw [List.getElem?_map] at hdq
   obtain ⟨qt,hqt,rfl⟩:=Option.map_eq_some_iff.mp hdq
   have hqm:=List.mem_of_getElem? hqt
   have hqJ:=hj qt hqm
   have hvd4:=Dat.keepT (g34.keepT b1) hqJ.noL hvd
   obtain ⟨r,pd,po,prr,ds,os,rs,rfl,q1,q2,q3,q4,dq1,dq2,dq3⟩:=x_c hvd4
   refine ⟨pl,_,_,_,rfl,rfl,SqL.of fpl4,y_c hv,?_⟩
   dsimp only [gName]
   show tAsg _ _ _ [some (.ref l),some (.ref pl),some (.ref sz),some (.ref np),some (.ref wd),some (.ref cp),some (.ref pr),some (.ref ps),some (.int (0+(i:Int))),some .non,some (.ref r),x11,x12] H4
   have sz4:=sz1.kp (g34.kps (ls:=[l,np,wd]) (by simp)) (fun _ h=>h) nz
   obtain ⟨ks,fz4,_,hks⟩:=sz4
   obtain ⟨a,s1,ha1,ha2,ha3⟩:=hks qt hqm
   simp only [List.mem_cons,List.not_mem_nil,or_false,not_or] at ha3
   have fcp4:=g34.1 _ _ ncl fcp1
   have fs4:=g34.1 _ _ (hb.ne hpsH) fs1
   refine ⟨_,rfl,_,rfl,_,rfl,_,rfl,r,_,_,_,rfl,rfl,SqT.of q1,rfl,sz,_,rfl,dget fz4 ha1,_,rfl,_,rfl,_,rfl,cp,_,_,_,rfl,rfl,SqL.of fcp4,rfl,_,rfl,ps,_,_,_,rfl,rfl,SqL.of fs4,rfl,_,_,rfl,rfl,_,rfl,cp,_,_,_,rfl,rfl,SqL.of fcp4,rfl,_,rfl,ps,_,_,_,rfl,rfl,SqL.of fs4,rfl,_,_,rfl,rfl,(by show 2<=sizeLine;decide),fun pk hpk=>?_⟩
   have v5:=z_c hpk (.lst [.int (c0-t0),.int (c1-t1)])
   have fk5:=z_b (H:=H4) (a:=pk) (o:=.lst [.int (c0-t0),.int (c1-t1)])
   generalize upd H4 pk (.lst [.int (c0-t0),.int (c1-t1)])=H5 at v5 fk5 ⊢
   have g5:=g34.trans (g4.2.same v5)
   refine ⟨l,a,np,wd,pk,.ref r,qt,z1,kvs1,(szN Ps qt:Int),s1,c0-t0,c1-t1,5+3*i,rfl,g5.2,⟨_,hqJ⟩,hqJ.noL,hvd4.same v5,v5 _ _ ha2,⟨g5.1 _ _ npl nm1.1,nm1.2⟩,g5.1 _ _ nwl fw1,gw1,by lia,fk5,npl,ha3.1,ha3.2.1,g4.2.ne hpk,(z_g (g34.1 _ _ npl nm1.1) hpk).symm,fun H' g'=>fin _ _ (.inl ⟨_,rfl,g5.trans g'⟩),?_⟩
   intro t vr cl' c lb ss os zs' kvs' many first H' k' b' ez nm' fw' gw' hk' uj hm hh hcost ft hcl fcl du
   have hlb:Sh lb:=(nm1.2.1 lb (by rw [ez];simp)).1
   have hol:=hqJ.ol
   have huo:=uj.2.1
   have hks':=use_cost (rec:=pthF (lkL Ps) Ps.length) (c:=c) (lb:=lb) (ss:=ss) (good_lk hg qt hqm) huo
   refine fin _ _ (.inr ⟨_,t,cl',vr,_,_,.use c lb qt.nm ss os,zs',kvs',rfl,(g5.kps (by simp)).trans k',b',ez,nm',fw',gw'.up ?_,hk',⟨.inr ⟨c,lb,qt.nm,ss,os,qt,rfl,hlb,good_lk hg qt hqm,uj⟩,?_,?_⟩,?_,ft,(bgFree g5 hcl).2,fcl,du⟩)
   ·lia
   ·rw [hks',hm]
    rfl
   ·show os.length+1<=4
    lia
   ·rw [Int.natCast_add]
    show t0+(many*((qt.ins.length:Int)+(szN Ps qt:Int))+(qt.outs.length:Int))<=c0+((i:Int)+1)
    lia
  intro σ H' hσ
  refine seq_have (fun σ H'=>∃ (y10 y11 y12:Option V) (t cl:Addr) (vr:V) (e0 e1:Int) (r:Rw) (z2:List Str) (kvs2:List (Key×V)),σ=[some (.ref l),some (.ref pl),some (.ref sz),some (.ref np),some (.ref wd),some (.ref cp),some (.ref pr),some (.ref ps),some (.int (0+(i:Int))),some (.ref t),y10,y11,y12]/\Kps [l,np,wd] H1 H'/\Bag H' l/\z1=defs r++z2++labs r/\NmsD H' np z2/\H' wd=some (.dK kvs2)/\Wd kvs2 (5+3*(i+1))/\(defs r=[]->kvs2=kvs1)/\RwD Ps r e0/\t0+e0<=c0+((i+1:Nat):Int)/\H' t=some (.tup [vr,.ref cl])/\H1 cl=none/\H' cl=some (.lst [.int e0,.int e1])/\Dat H' r.dat vr) ?_ ?_
  ·intro fin
   rcases hσ with ⟨y10,rfl,g2⟩ | ⟨y10,t,cl,vr,e0,e1,r,z2,kvs2,rfl,h2⟩
   ·refine ⟨_,rfl,rfl,_,rfl,?_⟩
    refine ite_t (decide_eq_true rfl) ?_
    refine ⟨_,rfl,l,8,rfl,g2.2,by decide,by decide,fun d H3 d0 d1 g3=>?_⟩
    refine ⟨_,_,rfl,rfl,?_⟩
    have g13:=g2.trans g3
    obtain ⟨z,zr,ez⟩:∃ z zr,z1=z::zr:=by
     cases z1 with
     | nil=>exact absurd l19 (by show ¬19<=0+4*i;lia)
     | cons z zr=>exact ⟨z,zr,rfl⟩
    have nm3:=nm1.1
    rw [ez] at nm3
    have fn3:=g13.1 _ _ npl nm3
    have hzS:=nm1.2.1 z (by rw [ez];exact List.mem_cons_self)
    refine ⟨_,rfl,.inl ⟨rfl,_,SqL.of fn3⟩,np,_,_,_,_,rfl,rfl,fn3,by decide,by decide,pop0,rfl,?_⟩
    have K4:Kps [l,np,wd] H1 (upd H3 np (.lst (zr.map V.str))):=(g13.kps (by simp)).set (by simp) _
    have b4:Bag (upd H3 np (.lst (zr.map V.str))) l:=g13.2.set npl _
    have fn4:=z_b (H:=H3) (a:=np) (o:=.lst (zr.map V.str))
    have fw4:(upd H3 np (.lst (zr.map V.str))) wd=some (.dK kvs1):=by rw [z_j nwn];exact g13.1 _ _ nwl fw1
    show tCons _ _ _ (upd H3 np (.lst (zr.map V.str))) _
    generalize upd H3 np (.lst (zr.map V.str))=H4 at K4 b4 fn4 fw4 ⊢
    obtain ⟨kv,kw,ksh⟩:=gw1.kw
    have w1:(1:Int)<=1+d:=by lia
    have w8:1+d<=8:=by lia
    refine ⟨_,rfl,_,rfl,_,rfl,_,rfl,4,by decide,l,wd,kvs1,kv,1+d,5,rfl,by decide,b4,fw4,kw,gw1.1.up (by lia),w1,w8,by decide,fun dd v H5 tp hD g5=>?_⟩
    refine ⟨(by show 4<=sizeLine;decide),fun pt hpt=>?_⟩
    have s6:=z_c hpt (.tup [.str "wire",.str z,.int (1+d),v])
    have f6:=z_b (H:=H5) (a:=pt) (o:=.tup [.str "wire",.str z,.int (1+d),v])
    have K6:=K4.trans ((g5.kps (by simp)).trans s6.kps)
    have b6:=(g5.2.same s6).2
    have fn6:=s6 _ _ (g5.1 _ _ npl fn4)
    have fw6:=s6 _ _ (g5.1 _ _ nwl fw4)
    have sd:=tp.say ksh
    have hD6:=hD.same s6
    show tSeq _ _ _ _ (upd H5 pt (.tup [.str "wire",.str z,.int (1+d),v]))
    generalize upd H5 pt (.tup [.str "wire",.str z,.int (1+d),v])=H6 at s6 f6 K6 b6 fn6 fw6 hD6 ⊢
    have hkl:=gw1.1.2.2
    refine ⟨_,rfl,_,rfl,_,rfl,pt,_,_,_,rfl,rfl,SqT.of f6,rfl,wd,_,rfl,DPut.k (k:=.inr z) (v:=.int (1+d)) fw6 (y_b (by lia)),?_⟩
    have K7:=K6.set (a:=wd) (by simp) (.dK (putK kvs1 (.inr z) (.int (1+d))))
    have b7:=b6.set nwl (.dK (putK kvs1 (.inr z) (.int (1+d))))
    have T7:=KeepT.dict fw6 (.dK (putK kvs1 (.inr z) (.int (1+d))))
    have hD7:=Dat.keepT T7 sd.noL hD6
    have f7:=T7 _ _ f6
    have fn7:(upd H6 wd (.dK (putK kvs1 (.inr z) (.int (1+d))))) np=some (.lst (zr.map V.str)):=by rw [z_j nwn.symm];exact fn6
    have fw7:=z_b (H:=H6) (a:=wd) (o:=.dK (putK kvs1 (.inr z) (.int (1+d))))
    generalize upd H6 wd (.dK (putK kvs1 (.inr z) (.int (1+d))))=H7 at K7 b7 T7 hD7 f7 fn7 fw7 ⊢
    refine ⟨_,rfl,_,rfl,pt,_,_,_,rfl,rfl,SqT.of f7,rfl,dd,v,rfl,sd,hD7,fun c H8 c1 c7 s8=>⟨(by show 2<=sizeLine;decide),fun cl hcl=>?_⟩⟩
    have s9:=s8.trans (z_c hcl (.lst [.int 1,.int c]))
    have fc9:=z_b (H:=H8) (a:=cl) (o:=.lst [.int 1,.int c])
    have hclH:H1 cl=none:=by
     refine Kps.free (K7.trans s8.kps) hcl ?_
     simp only [List.mem_cons,List.not_mem_nil,or_false,not_or]
     exact ⟨(b7.same s8).2.ne hcl,(z_g (s8 _ _ fn7) hcl).symm,(z_g (s8 _ _ fw7) hcl).symm⟩
    generalize upd H8 cl (.lst [.int 1,.int c])=H9 at s9 fc9 ⊢
    refine ⟨(by show 2<=sizeLine;decide),fun t ht=>?_⟩
    have s10:=s9.trans (z_c ht (.tup [.ref pt,.ref cl]))
    refine fin _ _ ⟨_,_,_,t,cl,.ref pt,1,c,.wire z (1+d) dd,zr,_,rfl,K7.trans s10.kps,(b7.same s10).2,?_,⟨s10 _ _ fn7,fun u hu=>nm1.2.1 u (by rw [ez];exact List.mem_cons_of_mem _ hu),?_,?_⟩,s10 _ _ fw7,(gw1.put hzS.1 w1 w8).up (by lia),(fun h=>absurd h (List.cons_ne_nil _ _)),⟨.inl (.inl ⟨_,_,_,rfl,hzS.1,sd⟩),rfl,(by show 1+0<=4;decide)⟩,?_,z_b,hclH,(z_c ht _) _ _ fc9,Dat.tup (s10 _ _ f7) (.cons (Dat.str _) (.cons (Dat.str _) (.cons (Dat.int _) (.cons (hD7.same s10) .nil))))⟩
    ·show z1=[z]++zr++[]
     rw [ez,List.append_nil]
     rfl
    ·have:=nm1.2.2.1
     rw [ez] at this
     exact (List.pairwise_cons.mp this).2
    ·have:=nm1.2.2.2
     rw [ez,List.length_cons] at this
     lia
    ·rw [Int.natCast_add]
     show t0+1<=c0+((i:Int)+1)
     lia
   ·refine ⟨_,rfl,rfl,_,rfl,?_⟩
    refine ite_f (decide_eq_false (fun h=>by cases h)) ?_
    exact fin _ _ ⟨_,_,_,t,cl,vr,e0,e1,r,z2,kvs2,rfl,h2⟩
  rintro σ H2 ⟨y10,y11,y12,t,cl,vr,e0,e1,r,z2,kvs2,rfl,K2,b2,ez,nm2,fw2,gw2,hk2,hr,hte,ft2,hcl,fc2,du2⟩
  have T2:=keep3 K2 b1 nm1.1 fw1
  have nrL:pr∉[l,np,wd]:=nf hpr
  have R2:=R1.kp K2 T2 nrL
  have fs2:=K2 _ _ (nf hpsH) fs1
  have ncr:pr≠cl:=by
   obtain ⟨⟨xs,e,_⟩,_⟩:=R1
   exact z_g e hcl
  have hncl:cl≠l:=b1.ne hcl
  obtain ⟨⟨xs,fr2,hX⟩,hrN⟩:=R2
  have hxl:=hX.length
  rw [List.length_map] at hxl
  refine ⟨_,rfl,.inl ⟨rfl,_,SqL.of fr2⟩,_,rfl,_,rfl,_,_,rfl,.inl ⟨_,SqL.of fr2,rfl⟩,_,_,rfl,rfl,l,_,rfl,b2,by lia,Int.lt_trans (show (xs.length:Int)+1<100 by lia) (by decide),fun e H8 e0' e1' g8=>?_⟩
  have fr8:=g8.1 _ _ nrl fr2
  have T8:=g8.keepT b2
  have ft8:=T8 _ _ ft2
  refine ⟨_,rfl,t,_,_,_,rfl,rfl,SqT.of ft8,rfl,pr,_,_,_,rfl,rfl,fr8,e0',by lia,y_b (by lia),?_⟩
  have K9:Kps [l,np,wd] H (upd H8 pr (.lst (xs.take e.toNat++vr::xs.drop e.toNat))):=(k1.trans (K2.trans (g8.kps (by simp)))).put hpr _
  have T9:KeepT H2 (upd H8 pr (.lst (xs.take e.toNat++vr::xs.drop e.toNat))):=T8.trans (KeepT.lst fr8 _)
  have b9:Bag (upd H8 pr (.lst (xs.take e.toNat++vr::xs.drop e.toNat))) l:=g8.2.set nrl _
  have fr9:=z_b (H:=H8) (a:=pr) (o:=.lst (xs.take e.toNat++vr::xs.drop e.toNat))
  have fs9:(upd H8 pr (.lst (xs.take e.toNat++vr::xs.drop e.toNat))) ps=some (.lst [.int t0,.int t1]):=by rw [z_j nrs.symm];exact g8.1 _ _ (hb.ne hpsH) fs2
  have fc9:(upd H8 pr (.lst (xs.take e.toNat++vr::xs.drop e.toNat))) cl=some (.lst [.int e0,.int e1]):=by rw [z_j ncr.symm];exact g8.1 _ _ hncl fc2
  have fn9:(upd H8 pr (.lst (xs.take e.toNat++vr::xs.drop e.toNat))) np=some (.lst (z2.map V.str)):=by rw [z_j nrn];exact g8.1 _ _ npl nm2.1
  have fw9:(upd H8 pr (.lst (xs.take e.toNat++vr::xs.drop e.toNat))) wd=some (.dK kvs2):=by rw [z_j nrw];exact g8.1 _ _ nwl fw2
  have ft9:=T9 _ _ ft2
  have du9:=Dat.keepT T9 hr.j.noL du2
  have hX9:=Dats.keepT T9 (noLs_rw hrN) hX
  generalize upd H8 pr (.lst (xs.take e.toNat++vr::xs.drop e.toNat))=H9 at K9 T9 b9 fr9 fs9 fc9 fn9 fw9 ft9 du9 hX9 ⊢
  refine ⟨_,rfl,ps,_,_,_,rfl,rfl,SqL.of fs9,rfl,_,rfl,t,_,_,_,rfl,rfl,SqT.of ft9,rfl,cl,_,_,_,rfl,rfl,SqL.of fc9,rfl,_,_,rfl,rfl,_,rfl,ps,_,_,_,rfl,rfl,SqL.of fs9,rfl,_,rfl,t,_,_,_,rfl,rfl,SqT.of ft9,rfl,cl,_,_,_,rfl,rfl,SqL.of fc9,rfl,_,_,rfl,rfl,(by show 2<=sizeLine;decide),fun pz hpz=>?_⟩
  have s10:=z_c hpz (.lst [.int (t0+e0),.int (t1+e1)])
  have pm:=ins_perm rows e.toNat r
  have hpzH:H pz=none:=by
   refine K9.free hpz ?_
   simp only [List.mem_cons,List.not_mem_nil,or_false,not_or]
   exact ⟨b9.ne hpz,(z_g fn9 hpz).symm,(z_g fw9 hpz).symm⟩
  have hnew:∀ P:Rw->Prop,(∀ x∈rows.take e.toNat++r::rows.drop e.toNat,P x)->P r/\∀ x∈rows,P x:=fun P h=>⟨h r (pm.mem_iff.mpr List.mem_cons_self),fun x hx=>h x (pm.mem_iff.mpr (List.mem_cons_of_mem _ hx))⟩
  refine ⟨_,_,_,_,_,pz,rows.take e.toNat++r::rows.drop e.toNat,Dn++defs r,labs r++Ln,z2,kvs2,t0+e0,t1+e1,rfl,K9.trans s10.kps,(b9.same s10).2,⟨⟨_,s10 _ _ fr9,?_⟩,fun x hx=>?_⟩,by rw [ins_len,hrl],fun x hx=>?_,?_,(perm_defs pm).trans ?_,(perm_labs pm).trans (pL.append_left _),?_,⟨s10 _ _ fn9,nm2.2⟩,s10 _ _ fw9,gw2,fun h=>?_,z_b,hpzH,z_g fr9 hpz,?_,hte⟩
  ·rw [List.map_append,List.map_cons,List.map_take,List.map_drop]
   exact (ins_dats hX9 du9 _).same s10
  ·rcases ins_mem hx with rfl | h
   ·exact hr.j.noL
   ·exact hrN x h
  ·rcases ins_mem hx with rfl | h
   ·exact hr.j
   ·exact hrJ x h
  ·rw [ezs,ez]
   simp only [List.append_assoc]
  ·exact List.perm_append_comm.trans (pD.append_right _)
  ·have h1:=hr.l
   have h2:=congrArg List.length ez
   rw [List.length_append,List.length_append] at h2
   lia
  ·obtain ⟨h1,h2⟩:=hnew _ h
   rw [hk2 h1,hk1 h2]
  ·rw [perm_len _ pm,Int.natCast_add,hr.k,et0]
   lia
 ·rintro σ H1 ⟨x8,x9,x10,x11,x12,ps,rows,Dn,Ln,z1,kvs1,t0,t1,rfl,k1,b1,R1,hrl,hrJ,ezs,pD,pL,l19,nm1,fw1,gw1,hk1,fs1,hpsH,nrs,et0,ht0⟩
  refine ⟨_,rfl,_,rfl,(by show 2<=sizeLine;decide),fun t ht=>?_⟩
  have s2:=z_c ht (.tup [.ref pr,.ref ps])
  exact q t pr ps rows Dn Ln z1 kvs1 t0 t1 _ (k1.trans s2.kps) (b1.same s2).2 ezs pD pL (by lia) ⟨s2 _ _ nm1.1,fun z hz=>(nm1.2.1 z hz).1,nm1.2.2.2⟩ (s2 _ _ fw1) (gw1.up (by lia)) hk1 (by lia) hrJ z_b ⟨hpr,hpsH,nrs⟩ (R1.same s2) (s2 _ _ fs1) et0 (by lia)
theorem ok_L_part(T:Tx w K mg A)(G_L_pool:FnOk P w K mg base CX0 2 A.a_L_pool A.d_L_pool ["_law_bag_here", "_law_many"] sp_poolD)(G_L_rows:FnOk P w K mg base CX0 11 A.a_L_rows A.d_L_rows ["_law_bag_here", "_law_plan_here", "_law_sizes", "_law_names", "_law_widths", "_law_cap"] sp_rows9)(G_L_take:FnOk P w K mg base CX0 1 A.a_L_take A.d_L_take ["_law_bag_here", "_law_many"] y_v)(G_L_typed:FnOk P w K mg base CX0 9 A.a_L_typed A.d_L_typed ["_law_bag_here", "_law_widths", "_law_width", "_law_deep", "_law_room"] (sp_typedN 4))(G_L_count:FnOk P w K mg base CX0 8 A.a_L_count A.d_L_count ["_law_saying"] (sp_count 5)):FnOk P w K mg base CX0 12 A.a_L_part A.d_L_part ["_law_bag_here", "_law_plan_here", "_law_sizes", "_law_name", "_law_cap"] sp_part9:=by
 refine T.F_L_part.ok sc_L_part (fun vs H Q E h=>?_) (fun cdv A' outer s H vs Q E hr h=>?_)
 ·obtain ⟨l,pl,sz,cp,nm,vs',Ps,c0,c1,rfl,hb,hnm,hcp,ncl,hc9,hpl,nll,hPs,hg,hP2,hsz,q⟩:=h
  rfl
 obtain ⟨l,pl,sz,cp,nm,vs',Ps,c0,c1,rfl,hb,hnm,hcp,ncl,hc9,hpl,nll,hPs,hg,hP2,hsz,q⟩:=h
 have hu:=hu_of hr
 refine ⟨_,(z_f (z_r (i:=5) sc_L_part.nd rfl (Or.inr rfl) (z_k G_L_pool (hr.mono (by first | decide | lia)) rfl T.M_L_pool T.F_L_pool.kp T.B_L_pool .nil pass0 (z_a (pv 0) (z_a z_e z_d))))
  (z_f (ps_comp [5,0] sc_L_part.nd (i:=6) rfl (Or.inl rfl) (fun _ _ h=>h) rfl (y_o rfl T.range (z_a (z_k G_L_take (hr.mono (by first | decide | lia)) rfl T.M_L_take T.F_L_take.kp T.B_L_take .nil pass0 (z_a (pv 0) (z_a z_e z_d))) z_d)) (fun _ _ _ _=>y_n) (fun _ _ _ _=>(y_d (z_a (pe_bmN PySem.F.plainAttrs_list PySem.F.slot_list_pop PySem.F.type_list_pop mt_popAt (pv 1) (z_a z_e z_d)) (z_a (z_o y_k z_e (z_k G_L_take (hr.mono (by first | decide | lia)) rfl T.M_L_take T.F_L_take.kp T.B_L_take .nil pass0 (z_a (pv 2) (z_a z_e z_d)))) z_d)))) rfl (show ∀ j∈([5,0]:List Nat),j<18 by decide) (show (["_law_k", "_law_names", "_law_bag_here"]:List Str).Nodup by decide +kernel) (by with_unfolding_all rfl))
  (z_f (ps_comp [5,0] sc_L_part.nd (i:=7) rfl (Or.inl rfl) (fun _ _ h=>h) rfl (y_o rfl T.range (z_a (z_k G_L_take (hr.mono (by first | decide | lia)) rfl T.M_L_take T.F_L_take.kp T.B_L_take .nil pass0 (z_a (pv 0) (z_a z_e z_d))) z_d)) (fun _ _ _ _=>y_n) (fun _ _ _ _=>(y_d (z_a (pe_bmN PySem.F.plainAttrs_list PySem.F.slot_list_pop PySem.F.type_list_pop mt_popAt (pv 1) (z_a z_e z_d)) (z_a (z_o y_k z_e (z_k G_L_take (hr.mono (by first | decide | lia)) rfl T.M_L_take T.F_L_take.kp T.B_L_take .nil pass0 (z_a (pv 2) (z_a z_e z_d)))) z_d)))) rfl (show ∀ j∈([5,0]:List Nat),j<18 by decide) (show (["_law_k", "_law_names", "_law_bag_here"]:List Str).Nodup by decide +kernel) (by with_unfolding_all rfl))
  (z_f (z_r (i:=8) sc_L_part.nd rfl (Or.inr rfl) (y_g (call_dicK rfl) rfl T.dict PyProof.Rows.boot_dict (z_a (z_o op_cat (pv 6) (pv 7)) z_d)))
  (z_f (ps_asg (z_k G_L_rows (hr.mono (by first | decide | lia)) rfl T.M_L_rows T.F_L_rows.kp T.B_L_rows .nil pass0 (z_a (pv 0) (z_a (pv 1) (z_a (pv 2) (z_a (pv 5) (z_a (pv 8) (z_a (y_h (z_a (z_o op_sub (z_l z_x (pv 4) z_e (fun _ _=>rfl)) z_e) (z_a (z_o op_sub (z_l z_x (pv 4) z_e (fun _ _=>rfl)) z_e) z_d))) z_d))))))) (pg_tup0 rfl (y_e (z_v (i:=9) sc_L_part.nd rfl (Or.inl rfl)) (y_e (z_v (i:=10) sc_L_part.nd rfl (Or.inl rfl)) pgs_nil))))
  (z_f (z_r (i:=11) sc_L_part.nd rfl (Or.inl rfl) (y_g (call_listD rfl) rfl T.list PyProof.Rows.boot_list (z_a (pv 8) z_d)))
  (z_f (z_r (i:=12) sc_L_part.nd rfl (Or.inl rfl) (z_k G_L_take (hr.mono (by first | decide | lia)) rfl T.M_L_take T.F_L_take.kp T.B_L_take .nil pass0 (z_a (pv 0) (z_a (z_o y_k (z_p y_f rfl T.len PySem.boot_len (z_a (pv 11) z_d)) z_e) z_d))))
  (z_f (ps_comp [8] sc_L_part.nd (i:=13) rfl (Or.inl rfl) (fun _ _ h=>h) rfl (pi_list0 (pe_slice sl_list0 (z_o op_cat (pe_slice sl_list0 (pv 11) (po_some (pv 12)) po_none) (pe_slice sl_list0 (pv 11) po_none (po_some (pv 12)))) po_none (po_some (z_k G_L_take (hr.mono (by first | decide | lia)) rfl T.M_L_take T.F_L_take.kp T.B_L_take .nil pass0 (z_a (pv 0) (z_a z_e z_d)))))) (fun _ _ _ _=>y_n) (fun _ _ _ _=>(y_d (z_a (pv 0) (z_a (pe_dget hu (pv 1) (pv 0) (fun _ _=>rfl)) z_d)))) rfl (show ∀ j∈([8]:List Nat),j<18 by decide) (show (["_law_one", "_law_widths"]:List Str).Nodup by decide +kernel) (by with_unfolding_all rfl))
  (z_f (z_r (i:=14) sc_L_part.nd rfl (Or.inl rfl) (y_h z_d))
  (z_f (x_a (z_s op_eq (z_k G_L_take (hr.mono (by first | decide | lia)) rfl T.M_L_take T.F_L_take.kp T.B_L_take .nil pass0 (z_a (pv 0) (z_a z_e z_d))) z_e (nomark _)) (z_f (ps_compG ["_law_one", "_law_width"] [5] sc_L_part.nd (i:=13) rfl (Or.inl rfl) (fun _ _ h=>h) rfl (pi_list0 (pv 6)) (fun _ _ _ _=>(pg_tup0 rfl (y_e (z_v (i:=0) (show (["_law_one", "_law_width", "_law_names"]:List Str).Nodup by decide +kernel) rfl (Or.inl rfl)) (y_e (z_v (i:=1) (show (["_law_one", "_law_width", "_law_names"]:List Str).Nodup by decide +kernel) rfl (Or.inl rfl)) pgs_nil)))) shp_tup2 (fun _ _ _ _=>y_n) (fun _ _ _ _=>(y_d (z_a (pe_bmN PySem.F.plainAttrs_list PySem.F.slot_list_pop PySem.F.type_list_pop mt_popAt (pv 2) (z_a z_e z_d)) (z_a (pv 1) z_d)))) rfl (show ∀ j∈([5]:List Nat),j<18 by decide) (by with_unfolding_all rfl))
  (z_i (ps_compG ["_law_one", "_law_width"] [0,8] sc_L_part.nd (i:=14) rfl (Or.inl rfl) (fun _ _ h=>h) rfl (pi_list0 (pv 13)) (fun _ _ _ _=>(pg_tup0 rfl (y_e (z_v (i:=0) (show (["_law_one", "_law_width", "_law_bag_here", "_law_widths"]:List Str).Nodup by decide +kernel) rfl (Or.inl rfl)) (y_e (z_v (i:=1) (show (["_law_one", "_law_width", "_law_bag_here", "_law_widths"]:List Str).Nodup by decide +kernel) rfl (Or.inl rfl)) pgs_nil)))) shp_tup2 (fun _ _ _ _=>y_n) (fun _ _ _ _=>(y_d (z_a z_t (z_a (pv 0) (z_a (pv 1) (z_a (z_k G_L_typed (hr.mono (by first | decide | lia)) rfl T.M_L_typed T.F_L_typed.kp T.B_L_typed .nil pass0 (z_a (pv 2) (z_a (pv 3) (z_a (pv 1) (z_a z_e (z_a z_e z_d)))))) z_d)))))) rfl (show ∀ j∈([0,8]:List Nat),j<18 by decide) (by with_unfolding_all rfl)))) y_a)
  (z_f (x_e PassesOwn.never rfl (pi_list0 (pv 7)) (pg_tup0 rfl (y_e (z_v (i:=15) sc_L_part.nd rfl (Or.inl rfl)) (y_e (z_v (i:=16) sc_L_part.nd rfl (Or.inl rfl)) pgs_nil)))
    (z_i (x_b (pe_bmN PySem.F.plainAttrs_list PySem.F.slot_list_append PySem.F.type_list_append y_u (pv 14) (z_a (y_d (z_a z_t (z_a (pv 15) (z_a (pv 16) (z_a (z_k G_L_take (hr.mono (by first | decide | lia)) rfl T.M_L_take T.F_L_take.kp T.B_L_take .nil pass0 (z_a (pv 0) (z_a (z_o op_shl z_e (pv 16)) z_d))) (z_a (z_k G_L_typed (hr.mono (by first | decide | lia)) rfl T.M_L_typed T.F_L_typed.kp T.B_L_typed .nil pass0 (z_a (pv 0) (z_a (pv 8) (z_a (pv 16) (z_a z_e (z_a z_e z_d)))))) z_d)))))) z_d)))))
  (z_f (x_e PassesOwn.never rfl (pi_list0 (pv 14)) (z_v (i:=17) sc_L_part.nd rfl (Or.inl rfl))
    (z_f (x_b (pe_bmN PySem.F.plainAttrs_list PySem.F.slot_list_insert PySem.F.type_list_insert mt_insert (pv 9) (z_a (z_k G_L_take (hr.mono (by first | decide | lia)) rfl T.M_L_take T.F_L_take.kp T.B_L_take .nil pass0 (z_a (pv 0) (z_a (z_o y_k (z_p y_f rfl T.len PySem.boot_len (z_a (pv 9) z_d)) z_e) z_d))) (z_a (pv 17) z_d))))
  (z_i (z_r (i:=10) sc_L_part.nd rfl (Or.inl rfl) (y_h (z_a (z_o y_k (z_l z_x (pv 10) z_e (fun _ _=>rfl)) z_e) (z_a (z_o y_k (z_l z_x (pv 10) z_e (fun _ _=>rfl)) (z_k G_L_count (hr.mono (by first | decide | lia)) rfl T.M_L_count T.F_L_count.kp T.B_L_count .nil pass0 (z_a (z_l z_n (pv 17) (pe_un un_neg z_e) (fun _ _=>rfl)) z_d))) z_d)))))))
  (z_i (z_z (y_d (z_a (y_d (z_a (pv 3) (z_a (y_g y_w rfl T.tuple PyProof.Rows.boot_tuple (z_a (pv 6) z_d)) (z_a (y_g y_w rfl T.tuple PyProof.Rows.boot_tuple (z_a (pv 13) z_d)) (z_a (y_g y_w rfl T.tuple PyProof.Rows.boot_tuple (z_a (pv 9) z_d)) z_d))))) (z_a (pv 10) z_d))))))))))))))))),?_⟩
 have hj:=x_s hg
 have nLP:noLs (Ps.map Pt.dat)=true:=z_u fun d hd=>by
  obtain ⟨P,hP,rfl⟩:=List.mem_map.mp hd
  exact (hj P hP).noL
 refine ⟨_,rfl,l,24,rfl,hb,by decide,fun np zs H1 hzl hnd hzs npl hnp g1 fn1=>?_⟩
 have nm1:Nms H1 np zs:=⟨fn1,fun z h=>(hzs z h).1,by lia⟩
 have hf2:∀ a∈[l,np],a=l\/H a=none:=fun a ha=>by
  simp only [List.mem_cons,List.not_mem_nil,or_false] at ha
  rcases ha with rfl | rfl
  ·exact .inl rfl
  ·exact .inr hnp
 refine ⟨_,rfl,l,4,rfl,g1.2,by decide,by decide,fun nd H2 n0 n1 g2=>⟨_,rfl,by lia,by lia,?_⟩⟩
 refine comp_pops9 (zs:=zs) (fun x=>rfl) g2.2 ⟨g2.1 _ _ npl fn1,nm1.2⟩ (by lia) npl fun rd ds H3 k3 b3 nm3 p3 ld ed od pd hpd=>?_
 have G3:=Bg.kp (g1.trans g2) k3 b3 hf2
 have npd:pd≠l:=b3.ne hpd
 have npn:np≠pd:=z_g nm3.1 hpd
 have hpdH:=(bgFree G3 hpd).2
 have s4:=z_c hpd (.lst (rd.map V.ref))
 have G4:=G3.trans (Bg.new b3 hpd (.lst (rd.map V.ref)))
 have nm4:Nms (upd H3 pd (.lst (rd.map V.ref))) np (zs.drop nd.toNat):=⟨s4 _ _ nm3.1,nm3.2⟩
 have fd4:=z_b (H:=H3) (a:=pd) (o:=.lst (rd.map V.ref))
 have p4:=p3.same s4
 have l1:21<=(zs.drop nd.toNat).length:=by rw [List.length_drop];lia
 have ld3:ds.length<=3:=by lia
 have lrd:=p3.length
 have hz1:zs=ds.map Prod.fst++zs.drop nd.toNat:=by rw [ed,List.take_append_drop]
 generalize zs.drop nd.toNat=z1 at nm3 nm4 l1 hz1
 dsimp only [gName]
 generalize upd H3 pd (.lst (rd.map V.ref))=H4 at s4 G4 nm4 fd4 p4 ⊢
 clear nm3 p3 k3 b3 G3 s4
 refine ⟨_,rfl,l,3,rfl,G4.2,by decide,by decide,fun nb H5 m0 m1 g5=>⟨_,rfl,by lia,by lia,?_⟩⟩
 refine comp_pops9 (zs:=z1) (fun x=>rfl) g5.2 ⟨g5.1 _ _ npl nm4.1,nm4.2⟩ (by lia) npl fun rb bs H6 k6 b6 nm6 p6 lb eb ob pb hpb=>?_
 have G6:=Bg.kp (G4.trans g5) k6 b6 hf2
 have ndl:pd∉[l,np]:=by
  simp only [List.mem_cons,List.not_mem_nil,or_false,not_or]
  exact ⟨npd,npn.symm⟩
 have K46:Kps [l,np] H4 H6:=(g5.kps (by simp)).trans k6
 have T46:KeepT H4 H6:=K46.keepT fun a ha xs' e=>by
  simp only [List.mem_cons,List.not_mem_nil,or_false] at ha
  rcases ha with rfl | rfl
  ·exact G4.2.noT _ e
  ·rw [nm4.1] at e;cases e
 have fd6:=K46 _ _ ndl fd4
 have npb:pb≠l:=b6.ne hpb
 have nbn:np≠pb:=z_g nm6.1 hpb
 have ndb:pd≠pb:=z_g fd6 hpb
 have hpbH:=(bgFree G6 hpb).2
 have s7:=z_c hpb (.lst (rb.map V.ref))
 have G7:=G6.trans (Bg.new b6 hpb (.lst (rb.map V.ref)))
 have nm7:Nms (upd H6 pb (.lst (rb.map V.ref))) np (z1.drop nb.toNat):=⟨s7 _ _ nm6.1,nm6.2⟩
 have fb7:=z_b (H:=H6) (a:=pb) (o:=.lst (rb.map V.ref))
 have fd7:=s7 _ _ fd6
 have pd7:=(p4.keepT T46).same s7
 have pb7:=p6.same s7
 have l2:19<=(z1.drop nb.toNat).length:=by rw [List.length_drop];lia
 have lb2:bs.length<=2:=by lia
 have lrb:=p6.length
 have hz2:z1=bs.map Prod.fst++z1.drop nb.toNat:=by rw [eb,List.take_append_drop]
 generalize z1.drop nb.toNat=z2 at nm6 nm7 l2 hz2
 generalize upd H6 pb (.lst (rb.map V.ref))=H7 at s7 G7 nm7 fb7 fd7 pd7 pb7 ⊢
 clear nm6 p6 k6 b6 G6 s7 p4 nm4 fd4 K46 T46 fd6
 refine ⟨_,rfl,_,rfl,pd,pb,_,_,rfl,rfl,fd7,fb7,small (by rw [List.length_map,List.length_map];lia),fun pc hpc=>?_⟩
 have s8:=z_c hpc (.lst (rd.map V.ref++rb.map V.ref))
 have fc8:=z_b (H:=H7) (a:=pc) (o:=.lst (rd.map V.ref++rb.map V.ref))
 have G8:=G7.trans (Bg.new G7.2 hpc (.lst (rd.map V.ref++rb.map V.ref)))
 generalize upd H7 pc (.lst (rd.map V.ref++rb.map V.ref))=H8 at s8 fc8 G8 ⊢
 refine ⟨pc,rd++rb,(ds++bs).map prK,rfl,by rw [List.map_append];exact fc8,(pd7.same s8).app (pb7.same s8),by rw [List.length_map,List.length_append];lia,fun wd hwd=>?_⟩
 have gw:Wd (ptK ((ds++bs).map prK)) 5:=(Wd.pt (ds++bs) fun d hd=>(List.mem_append.mp hd).elim (od d) (ob d)).up (by rw [List.length_append];lia)
 have hk0:ds=[]->bs=[]->ptK ((ds++bs).map prK)=[]:=fun h1 h2=>by rw [h1,h2];rfl
 generalize ptK ((ds++bs).map prK)=kvs at gw hk0 ⊢
 have nwl:wd≠l:=G8.2.ne hwd
 have s9:=s8.trans (z_c hwd (.dK kvs))
 have fw9:=z_b (H:=H8) (a:=wd) (o:=.dK kvs)
 have G9:=G8.trans (Bg.new G8.2 hwd (.dK kvs))
 have hwdH:=(bgFree G8 hwd).2
 have nwd:pd≠wd:=z_g (s8 _ _ fd7) hwd
 have nwb:pb≠wd:=z_g (s8 _ _ fb7) hwd
 have nwn:np≠wd:=z_g (s8 _ _ nm7.1) hwd
 generalize upd H8 wd (.dK kvs)=H9 at s9 fw9 G9 ⊢
 clear s8 fc8 G8 hwd hpc
 have fcp9:=G9.1 _ _ ncl hcp
 have nm9:Nms H9 np z2:=⟨s9 _ _ nm7.1,nm7.2⟩
 refine ⟨_,rfl,_,rfl,_,rfl,_,rfl,_,rfl,_,rfl,cp,_,_,_,rfl,rfl,SqL.of fcp9,rfl,_,_,rfl,rfl,_,rfl,cp,_,_,_,rfl,rfl,SqL.of fcp9,rfl,_,_,rfl,rfl,(by show 2<=sizeLine;decide),fun pk hpk=>?_⟩
 have s10:=s9.trans (z_c hpk (.lst [.int (c0-9),.int (c1-100)]))
 have G10:=G9.trans (Bg.new G9.2 hpk (.lst [.int (c0-9),.int (c1-100)]))
 have fw10:=(z_c hpk (.lst [.int (c0-9),.int (c1-100)])) _ _ fw9
 have fk10:=z_b (H:=H9) (a:=pk) (o:=.lst [.int (c0-9),.int (c1-100)])
 have nkl:pk≠l:=G9.2.ne hpk
 have nkn:pk≠np:=(z_g nm9.1 hpk).symm
 generalize upd H9 pk (.lst [.int (c0-9),.int (c1-100)])=H10 at s10 G10 fw10 fk10 ⊢
 have hf3:∀ a∈[l,np,wd],a=l\/H a=none:=fun a ha=>by
  simp only [List.mem_cons,List.not_mem_nil,or_false] at ha
  rcases ha with rfl | rfl | rfl
  ·exact .inl rfl
  ·exact .inr hnp
  ·exact .inr hwdH
 have nsw:sz≠wd:=by
  obtain ⟨ks,h1,_⟩:=hsz
  exact z_g h1 hwdH
 have nd2:z2.Nodup:=by
  rw [hz1,hz2] at hnd
  exact (List.pairwise_append.mp (List.pairwise_append.mp hnd).2.1).2.1
 have mz2:∀ z∈z2,z∈zs:=fun z h=>by
  rw [hz1,hz2]
  exact List.mem_append_right _ (List.mem_append_right _ h)
 have nm10:Nms H10 np z2:=⟨s10 _ _ nm7.1,nm7.2⟩
 refine ⟨l,pl,sz,np,wd,pk,vs',Ps,z2,kvs,c0-9,c1-100,rfl,G10.2,G10.1 _ _ nll hpl,hPs.keepT (G10.keepT hb) nLP,hg,hP2,hsz.more hb G10 hf3,⟨nm10.1,fun z h=>hzs z (mz2 z h),nd2,nm10.2.2⟩,by lia,fw10,gw,fk10,by lia,npl,nll,z_g hpl hnp,nsw,nkl,nkn,fun t pr ps rows Dn Ln z3 kvs1 s0 s1 H11 k11 b11 ez3 pD pL lk5 nm11 fw11 gw11 hr0 hr4 hrJ ft hprs R11 fs11 es0 hs0=>?_⟩
 refine ⟨t,_,rfl,SqT.of ft,rfl,_,_,rfl,_,_,rfl,rfl,?_⟩
 obtain ⟨hprJ,hpsJ,nrs⟩:=hprs
 have nm10:=nm10.1
 have T11:=keep3 k11 G10.2 nm10 fw10
 have G11:=Bg.kp G10 k11 b11 hf3
 have D11:PL H11 pd rd ds:=(PL.same ⟨fd7,pd7⟩ s10).kp k11 T11 (by simp only [List.mem_cons,List.not_mem_nil,or_false,not_or];exact ⟨npd,npn.symm,nwd⟩)
 have B11:PL H11 pb rb bs:=(PL.same ⟨fb7,pb7⟩ s10).kp k11 T11 (by simp only [List.mem_cons,List.not_mem_nil,or_false,not_or];exact ⟨npb,nbn.symm,nwb⟩)
 have hprH:=(bgFree G10 hprJ).2
 have nrl:pr≠l:=(bgFree G10 hprJ).1
 have nsl:ps≠l:=(bgFree G10 hpsJ).1
 have nrn:np≠pr:=z_g nm10 hprJ
 have nrw:wd≠pr:=z_g fw10 hprJ
 have nrd:pd≠pr:=z_g (s10 _ _ fd7) hprJ
 have nrb:pb≠pr:=z_g (s10 _ _ fb7) hprJ
 have hpsH:=(bgFree G10 hpsJ).2
 clear T11 k11 b11 s10 G10 fw10 nm10 s9 fw9 G9 nm9 fcp9 hpk pd7 pb7 fd7 fb7 G7 nm7 g5 G4 hprJ hpsJ
 refine ⟨_,rfl,wd,kvs1,rfl,.inl fw11,fun pv hpv=>?_⟩
 obtain ⟨ks,eks,lks,hks⟩:=gw11.keysD
 have hkl:=gw11.1.2.2
 rw [eks]
 have s12:=z_c hpv (.lst (ks.map V.str))
 have fv12:=z_b (H:=H11) (a:=pv) (o:=.lst (ks.map V.str))
 have G12:=G11.trans (Bg.new G11.2 hpv (.lst (ks.map V.str)))
 have nvl:pv≠l:=G11.2.ne hpv
 dsimp only [gName]
 generalize upd H11 pv (.lst (ks.map V.str))=H12 at s12 fv12 G12 ⊢
 have nm12:Nms H12 np z3:=⟨s12 _ _ nm11.1,nm11.2⟩
 have D12:=D11.same s12
 have B12:=B11.same s12
 have R12:=R11.same s12
 have fw12:=s12 _ _ fw11
 have fs12:=s12 _ _ fs11
 refine ⟨_,rfl,_,rfl,_,_,rfl,.inl ⟨_,SqL.of fv12,rfl⟩,_,_,rfl,rfl,l,_,rfl,G12.2,by lia,(by rw [List.length_map];exact Int.lt_trans (show (ks.length:Int)+1<100 by lia) (by decide)),fun at_ H13 a0 a1 g13=>?_⟩
 have G13:=G12.trans g13
 have nm13:Nms H13 np z3:=⟨g13.1 _ _ npl nm12.1,nm12.2⟩
 have D13:=D12.bg G12.2 g13 npd
 have B13:=B12.bg G12.2 g13 npb
 have R13:=R12.bg G12.2 g13 nrl
 have fw13:=g13.1 _ _ nwl fw12
 have fs13:=g13.1 _ _ nsl fs12
 have fv13:=g13.1 _ _ nvl fv12
 clear D11 B11 R11 D12 B12 R12 s12 fv12 G12 G11 fw12 fs12 nm12 nm11 fw11 fs11 hpv g13
 refine ⟨_,rfl,_,rfl,_,rfl,pv,_,rfl,SqL.of fv13,fun p1 hp1=>?_⟩
 have s14:=z_c hp1 (.lst (cutV (ks.map V.str) (some at_) none))
 have f14:=z_b (H:=H13) (a:=p1) (o:=.lst (cutV (ks.map V.str) (some at_) none))
 generalize upd H13 p1 (.lst (cutV (ks.map V.str) (some at_) none))=H14 at s14 f14 ⊢
 refine ⟨_,rfl,_,rfl,_,rfl,pv,_,rfl,SqL.of (s14 _ _ fv13),fun p2 hp2=>?_⟩
 have s15:=z_c hp2 (.lst (cutV (ks.map V.str) none (some at_)))
 have f15:=z_b (H:=H14) (a:=p2) (o:=.lst (cutV (ks.map V.str) none (some at_)))
 generalize upd H14 p2 (.lst (cutV (ks.map V.str) none (some at_)))=H15 at s15 f15 ⊢
 have c1:=cutV_length (ks.map V.str) (some at_) none
 have c2:=cutV_length (ks.map V.str) none (some at_)
 rw [List.length_map] at c1 c2
 refine ⟨p1,p2,_,_,rfl,rfl,s15 _ _ f14,f15,small (by lia),fun p3 hp3=>?_⟩
 have hmem:∀ y∈cutV (ks.map V.str) (some at_) none++cutV (ks.map V.str) none (some at_),∃ x∈ks,y=V.str x:=fun y hy=>by
  have:y∈ks.map V.str:=(List.mem_append.mp hy).elim mem_cut8 mem_cut8
  obtain ⟨x,hx,rfl⟩:=List.mem_map.mp this
  exact ⟨x,hx,rfl⟩
 have hcl:(cutV (ks.map V.str) (some at_) none++cutV (ks.map V.str) none (some at_)).length<=2*ks.length:=by rw [List.length_append];lia
 generalize cutV (ks.map V.str) (some at_) none++cutV (ks.map V.str) none (some at_)=cs at hmem hcl ⊢
 have np3:p3≠l:=(G13.2.same (s14.trans s15)).2.ne hp3
 have s16:=s14.trans (s15.trans (z_c hp3 (.lst cs)))
 have f16:=z_b (H:=H15) (a:=p3) (o:=.lst cs)
 generalize upd H15 p3 (.lst cs)=H16 at s16 f16 ⊢
 clear s15 f15 f14 s14 hp1 hp2 hp3
 have b16:=(G13.2.same s16).2
 refine ⟨_,rfl,l,4,rfl,b16,by decide,by decide,fun e H17 e0 e1 g17=>⟨_,rfl,p3,_,rfl,SqL.of (g17.1 _ _ np3 f16),fun p4 hp4=>?_⟩⟩
 have l4:(cutV cs none (some e)).length<=3:=by have:=cut_le (xs:=cs) e0;lia
 have l40:=cutV_length cs none (some e)
 have hm4:∀ y∈cutV cs none (some e),∃ x∈ks,y=V.str x:=fun y hy=>hmem y (mem_cut8 hy)
 generalize cutV cs none (some e)=cx at l4 l40 hm4 ⊢
 have g18:Bg l H13 (upd H17 p4 (.lst cx)):=((G13.2.same s16).trans g17).trans (Bg.new g17.2 hp4 _)
 have f18:=z_b (H:=H17) (a:=p4) (o:=.lst cx)
 have n4:p4≠l:=g17.2.ne hp4
 generalize upd H17 p4 (.lst cx)=H18 at g18 f18 ⊢
 have fw18:=g18.1 _ _ nwl fw13
 refine ⟨p4,rfl,⟨_,SqL.of f18⟩,comp_list (xs:=cx) (fun i ys H'=>∃ (ro:List Addr) (outs:List (Str×Int)),ys=ro.map V.ref/\Same H18 H'/\PrL H' ro outs/\outs.length=i/\∀ d∈outs,DrOk d) ⟨[],[],rfl,Same.refl _,PrL.nil,rfl,(fun _ h=>nomatch h)⟩ ?_ ?_ ?_ ?_⟩
 ·rintro i ys H' _ ⟨_,_,_,s',_⟩
  exact SqL.of (s' _ _ f18)
 ·rintro i ys H' hi ⟨ro,outs,rfl,_,ho,hol,_⟩
  rw [List.length_map,ho.length]
  exact y_b (by lia)
 ·rintro i y ys H' hy ⟨ro,outs,rfl,s',ho,hol,hos⟩
  obtain ⟨x,hx,rfl⟩:=hm4 y (List.mem_of_getElem? hy)
  obtain ⟨hxs,wx,hxv,hw1⟩:=hks x hx
  unfold tYes
  refine iteT ⟨_,rfl,_,rfl,_,rfl,wd,_,rfl,dget (s' _ _ fw18) hxv,(by show 2<=sizeLine;decide),fun pt hpt=>?_⟩
  have s2:=z_c hpt (.tup [.str x,.int wx])
  refine ⟨ro++[pt],outs++[(x,wx)],by rw [List.map_append];rfl,s'.trans s2,(ho.same s2).snoc z_b,by rw [List.length_append,hol];rfl,fun d hd=>?_⟩
  rcases List.mem_append.mp hd with h | h
  ·exact hos d h
  ·rw [List.mem_singleton.mp h]
   exact ⟨hxs,hw1⟩
 rintro ys H19 ⟨ro,outs,rfl,s19,ho,hol,hos⟩ po hpo
 have ho3:outs.length<=3:=by lia
 have hO:ds=[]->bs=[]->(∀ r∈rows,defs r=[])->outs=[]:=fun h1 h2 h3=>by
  have e1:=hr0 h3
  rw [hk0 h1 h2] at e1
  rw [e1] at lks
  have:ks.length=0:=lks
  exact List.eq_nil_of_length_eq_zero (by lia)
 clear hol hm4 l4 l40 hcl hmem hks hk0 hr0
 have s20:=s19.trans (z_c hpo (.lst (ro.map V.ref)))
 have O20:PL (upd H19 po (.lst (ro.map V.ref))) po ro outs:=⟨z_b,ho.same (z_c hpo _)⟩
 have npo:po≠l:=(g18.2.same s19).2.ne hpo
 obtain ⟨⟨xr0,fr19,_⟩,_⟩:=R13.bg G13.2 (g18.trans (g18.2.same s19)) nrl
 have nor:pr≠po:=z_g fr19 hpo
 clear fr19
 generalize upd H19 po (.lst (ro.map V.ref))=H20 at s20 O20 ⊢
 have g20:=g18.trans (g18.2.same s20)
 refine ⟨(by show 0<=sizeLine;decide),fun pm hpm=>?_⟩
 have s21:=z_c hpm (.lst [])
 have g21:=g20.trans (Bg.new g20.2 hpm (.lst []))
 have O21:=O20.same s21
 have M21:RL (upd H20 pm (.lst [])) pm []:=⟨⟨[],z_b,.nil⟩,fun _ h=>nomatch h⟩
 have G21:=G13.trans g21
 have D21:=D13.bg G13.2 g21 npd
 have B21:=B13.bg G13.2 g21 npb
 have R21:=R13.bg G13.2 g21 nrl
 have fw21:=g21.1 _ _ nwl fw13
 have fs21:=g21.1 _ _ nsl fs13
 have nm21:Nms (upd H20 pm (.lst [])) np z3:=⟨g21.1 _ _ npl nm13.1,nm13.2⟩
 have hpmH:=(bgFree (G13.trans g20) hpm).2
 have nml:pm≠l:=g20.2.ne hpm
 have nmd:pd≠pm:=z_g (D13.bg G13.2 g20 npd).1 hpm
 have nmb:pb≠pm:=z_g (B13.bg G13.2 g20 npb).1 hpm
 have nmw:wd≠pm:=z_g (g20.1 _ _ nwl fw13) hpm
 have nms:ps≠pm:=z_g (g20.1 _ _ nsl fs13) hpm
 have nmo:po≠pm:=z_g O20.1 hpm
 obtain ⟨⟨xr,fr13,_⟩,_⟩:=R13.bg G13.2 g20 nrl
 have nmr:pr≠pm:=z_g fr13 hpm
 dsimp only [gName]
 generalize upd H20 pm (.lst [])=H21 at s21 g21 O21 M21 G21 D21 B21 R21 fw21 fs21 nm21 ⊢
 clear s20 O20 g20 s19 s21 ho g18 f18 fw18 b16 s16 f16 g17 fr13 D13 B13 R13 fw13 fs13 fv13 nm13 g21 hpo hpm
 refine seq_have (fun σ H'=>∃ (po pm:Addr) (ro:List Addr) (outs:List (Str×Int)) (mr:List Rw),σ=[some (.ref l),some (.ref pl),some (.ref sz),some (.str nm),some (.ref cp),some (.ref np),some (.ref pd),some (.ref pb),some (.ref wd),some (.ref pr),some (.ref ps),some (.ref pv),some (.int at_),some (.ref po),some (.ref pm),none,none,none]/\Bg l H H'/\PL H' pd rd ds/\PL H' pb rb bs/\RN H' pr rows/\H' wd=some (.dK kvs1)/\H' ps=some (.lst [.int s0,.int s1])/\PL H' po ro outs/\RL H' pm mr/\mr.length<=3/\outs.length<=3/\(∀ d∈outs,DrOk d)/\(ds=[]->bs=[]->(∀ r∈rows,defs r=[])->outs=[])/\(∃ z4,z3=mr.flatMap defs++z4)/\H pm=none/\pm≠l/\pd≠pm/\pb≠pm/\wd≠pm/\ps≠pm/\po≠pm/\pr≠pm/\po≠l/\pr≠po) ?_ ?_
 ·intro fin
  refine ⟨_,rfl,l,2,rfl,G21.2,by decide,by decide,fun c H23 c0 c1 g23=>⟨rfl,_,rfl,?_⟩⟩
  have G23:=G21.trans g23
  have D23:=D21.bg G21.2 g23 npd
  have B23:=B21.bg G21.2 g23 npb
  have R23:=R21.bg G21.2 g23 nrl
  have fw23:=g23.1 _ _ nwl fw21
  have fs23:=g23.1 _ _ nsl fs21
  have nm23:Nms H23 np z3:=⟨g23.1 _ _ npl nm21.1,nm21.2⟩
  refine ite2 (fun cc=>?_) (fun cc=>?_)
  ·clear O21 M21 hO hos ho3 D21 B21 R21 fw21 fs21 nm21 G21
   refine ⟨_,rfl,pd,rfl,⟨_,SqL.of D23.1⟩,comp_listG (xs:=rd.map V.ref) (fun i ys H'=>∃ (r2:List Addr) (o2:List (Str×Int)),ys=r2.map V.ref/\Kps [l,np] H23 H'/\Bag H' l/\Nms H' np (z3.drop i)/\PrL H' r2 o2/\o2.length=i/\o2.map Prod.fst=z3.take i/\∀ d∈o2,DrOk d) ⟨[],[],rfl,Kps.refl,G23.2,nm23,PrL.nil,rfl,rfl,(fun _ h=>nomatch h)⟩ ?_ ?_ ?_ ?_⟩
   ·rintro i ys H' _ ⟨_,_,_,k',_⟩
    exact SqL.of (k' _ _ ndl D23.1)
   ·rintro i ys H' hi ⟨r2,o2,rfl,_,_,_,h2,hl2,_⟩
    rw [List.length_map] at hi
    rw [List.length_map,h2.length]
    exact y_b (by lia)
   ·rintro i x ys H' os hos hx ⟨r2,o2,rfl,k',b',nm',h2,hl2,hn2,hd2⟩
    have hi:i<rd.length:=by have:=(List.getElem?_eq_some_iff.mp hx).1;rwa [List.length_map] at this
    rw [List.getElem?_map] at hx
    obtain ⟨r,hr,rfl⟩:=Option.map_eq_some_iff.mp hx
    obtain ⟨y1,y2,rfl⟩:=two_ad hos
    obtain ⟨d,hd,er⟩:=(D23.2.keepT (keep2 k' G23.2 nm23.1)).get hr
    have hdk:=od d (List.mem_of_getElem? hd)
    obtain ⟨z,hzi⟩:∃ z,z3[i]? = some z:=⟨z3[i]'(by lia),List.getElem?_eq_getElem _⟩
    have ez:z3.drop i=z::z3.drop (i+1):=by
     obtain ⟨h,rfl⟩:=List.getElem?_eq_some_iff.mp hzi
     exact List.drop_eq_getElem_cons h
    have hz:=List.mem_of_getElem? hzi
    rw [ez] at nm'
    refine ⟨r,_,rfl,SqT.of er,rfl,_,_,rfl,_,_,rfl,rfl,?_⟩
    unfold tYes
    refine iteT ⟨_,rfl,.inl ⟨rfl,_,SqL.of nm'.1⟩,np,_,_,_,_,rfl,rfl,nm'.1,by decide,by decide,pop0,rfl,?_⟩
    have k2:=k'.set (a:=np) (by simp) (.lst ((z3.drop (i+1)).map V.str))
    have b2:=b'.set npl (.lst ((z3.drop (i+1)).map V.str))
    have f2:=z_b (H:=H') (a:=np) (o:=.lst ((z3.drop (i+1)).map V.str))
    have p2:=h2.keepT (KeepT.lst nm'.1 (.lst ((z3.drop (i+1)).map V.str)))
    show tCons _ _ _ (upd H' np (.lst ((z3.drop (i+1)).map V.str))) _
    generalize upd H' np (.lst ((z3.drop (i+1)).map V.str))=H2 at k2 b2 f2 p2 ⊢
    refine ⟨_,rfl,(by show 2<=sizeLine;decide),fun pt hpt=>?_⟩
    have s4:=z_c hpt (.tup [.str z,.int d.2])
    refine ⟨r2++[pt],o2++[(z,d.2)],by rw [List.map_append];rfl,k2.trans s4.kps,(b2.same s4).2,nm'.nx (s4 _ _ f2),(p2.same s4).snoc z_b,by rw [List.length_append,hl2];rfl,by rw [List.map_append,hn2,z_y hzi];rfl,fun e he=>?_⟩
    rcases List.mem_append.mp he with h | h
    ·exact hd2 e h
    ·rw [List.mem_singleton.mp h]
     exact ⟨nm23.2.1 z hz,hdk.2⟩
   rintro ys H24 ⟨r2,o2,rfl,k24,b24,nm24,h2,hl2,hn2,hd2⟩ po2 hpo2
   rw [List.length_map] at hl2
   have T24:=keep2 k24 G23.2 nm23.1
   have G24:=Bg.kp G23 k24 b24 hf2
   have n2w:∀ {a:Addr},a≠l->np≠a->a∉[l,np]:=fun {a} h1 h2=>by
    simp only [List.mem_cons,List.not_mem_nil,or_false,not_or]
    exact ⟨h1,h2.symm⟩
   have s25:=z_c hpo2 (.lst (r2.map V.ref))
   have O25:PL (upd H24 po2 (.lst (r2.map V.ref))) po2 r2 o2:=⟨z_b,h2.same s25⟩
   have G25:=G24.trans (Bg.new b24 hpo2 (.lst (r2.map V.ref)))
   have D25:=(D23.kp k24 T24 (n2w npd npn)).same s25
   have B25:=(B23.kp k24 T24 (n2w npb nbn)).same s25
   have R24:=R23.kp k24 T24 (n2w nrl nrn)
   have R25:=R24.same s25
   have fw25:=s25 _ _ (k24 _ _ (n2w nwl nwn) fw23)
   have nsn:np≠ps:=fun e=>by
    have h1:=nm23.1
    rw [e,fs23] at h1
    have h2:=congrArg List.length (HO.lst.inj (Option.some.inj h1))
    rw [List.length_map] at h2
    have h3:(2:Nat)=z3.length:=h2
    lia
   have fs25:=s25 _ _ (k24 _ _ (n2w nsl nsn) fs23)
   have npo2:po2≠l:=b24.ne hpo2
   obtain ⟨⟨xr,fr24,_⟩,_⟩:=R24
   have nor2:pr≠po2:=z_g fr24 hpo2
   dsimp only [gName]
   generalize upd H24 po2 (.lst (r2.map V.ref))=H25 at s25 O25 G25 D25 B25 R25 fw25 fs25 ⊢
   clear fr24 T24 k24 b24 nm24 h2 D23 B23 R23 fw23 fs23 nm23 G24
   obtain ⟨kv,kw,ksh⟩:=gw11.kw
   refine ⟨_,rfl,po2,rfl,⟨_,SqL.of O25.1⟩,comp_listG (xs:=r2.map V.ref) (fun i ys H'=>∃ mr:List Rw,Bg l H25 H'/\Dats H' (mr.map Rw.dat) ys/\mr.length=i/\mr.flatMap defs=(o2.take i).map Prod.fst/\∀ r∈mr,RwI r) ⟨[],Bg.refl G25.2,.nil,rfl,rfl,(fun _ h=>nomatch h)⟩ ?_ ?_ ?_ ?_⟩
   ·rintro i ys H' _ ⟨_,g',_⟩
    exact SqL.of (g'.1 _ _ npo2 O25.1)
   ·rintro i ys H' hi ⟨mr,_,hy,hl,_⟩
    have:=hy.length
    have h2:=O25.2.length
    rw [List.length_map] at this hi
    exact y_b (by lia)
   ·rintro i x ys H' os hos hx ⟨mr,g',hy,hl,hmd,hmr⟩
    rw [List.getElem?_map] at hx
    obtain ⟨r,hr,rfl⟩:=Option.map_eq_some_iff.mp hx
    obtain ⟨y1,y2,rfl⟩:=two_ad hos
    obtain ⟨d,hd,er⟩:=(O25.2.keepT (g'.keepT G25.2)).get hr
    obtain ⟨dsh,w1,w8⟩:=hd2 d (List.mem_of_getElem? hd)
    refine ⟨r,_,rfl,SqT.of er,rfl,_,_,rfl,_,_,rfl,rfl,?_⟩
    unfold tYes
    refine iteT ⟨_,rfl,_,rfl,_,rfl,_,rfl,_,rfl,3,by decide,l,wd,kvs1,kv,d.2,4,rfl,by decide,g'.2,g'.1 _ _ nwl fw25,kw,gw11.1.up (by decide),w1,w8,by decide,fun dd v H5 tp hD g5=>⟨(by show 4<=sizeLine;decide),fun pt hpt=>?_⟩⟩
    have s6:=z_c hpt (.tup [.str "wire",.str d.1,.int d.2,v])
    have sd:=(tp.say ksh).up (show 4<=5 by decide)
    refine ⟨mr++[.wire d.1 d.2 dd],(g'.trans g5).trans (g5.2.same s6),?_,by rw [List.length_append,hl];rfl,by rw [List.flatMap_append,hmd,z_y hd,List.map_append];rfl,fun e he=>?_⟩
    ·rw [List.map_append]
     exact ((hy.keepT (g5.keepT g'.2) (noL_rows hmr)).same s6).append (.cons (Dat.tup z_b (.cons (Dat.str _) (.cons (Dat.str _) (.cons (Dat.int _) (.cons (hD.same s6) .nil))))) .nil)
    ·rcases List.mem_append.mp he with h | h
     ·exact hmr e h
     ·rw [List.mem_singleton.mp h]
      exact .inl ⟨_,_,_,rfl,dsh,sd⟩
   rintro ys H26 ⟨mr,g26,hy,hl,hmd,hmr⟩ pm2 hpm2
   have lo2:=O25.2.length
   rw [List.length_map] at hl hmd
   rw [List.take_of_length_le (by lia),hn2] at hmd
   have g27:=g26.trans (Bg.new g26.2 hpm2 (.lst ys))
   have G26:=G25.trans g26
   obtain ⟨⟨xr,fr26,_⟩,_⟩:=R25.bg G25.2 g26 nrl
   exact fin _ _ ⟨po2,pm2,r2,o2,mr,rfl,G25.trans g27,D25.bg G25.2 g27 npd,B25.bg G25.2 g27 npb,R25.bg G25.2 g27 nrl,g27.1 _ _ nwl fw25,g27.1 _ _ nsl fs25,O25.bg G25.2 g27 npo2,⟨⟨ys,z_b,hy.same (z_c hpm2 _)⟩,hmr⟩,by lia,by lia,hd2,fun h1 _ _=>List.eq_nil_of_length_eq_zero (by rw [h1] at lrd;have:rd.length=0:=lrd;lia),⟨_,by rw [hmd];exact (List.take_append_drop _ _).symm⟩,(bgFree G26 hpm2).2,g26.2.ne hpm2,z_g (D25.bg G25.2 g26 npd).1 hpm2,z_g (B25.bg G25.2 g26 npb).1 hpm2,z_g (g26.1 _ _ nwl fw25) hpm2,z_g (g26.1 _ _ nsl fs25) hpm2,z_g (O25.bg G25.2 g26 npo2).1 hpm2,z_g fr26 hpm2,npo2,nor2⟩
  ·exact fin _ _ ⟨po,pm,ro,outs,[],rfl,G23,D23,B23,R23,fw23,fs23,O21.bg G21.2 g23 npo,M21.bg G21.2 g23 nml,by decide,ho3,hos,hO,⟨z3,rfl⟩,hpmH,nml,nmd,nmb,nmw,nms,nmo,nmr,npo,nor⟩
 rintro σ H22 ⟨po,pm,ro,outs,mr,rfl,G22,D22,B22,R22,fw22,fs22,O22,M22,lm3,lo3,os22,hO,⟨z4,ez4⟩,hpmH,nml,nmd,nmb,nmw,nms,nmo,nmr,npo,nor⟩
 obtain ⟨kv,kw,ksh⟩:=gw11.kw
 have lpb:=B22.2.length
 refine ⟨_,rfl,pb,rfl,⟨_,SqL.of B22.1⟩,for_list (xs:=rb.map V.ref) (fun i σ H'=>∃ (x15 x16:Option V) (mb:List Rw),σ=[some (.ref l),some (.ref pl),some (.ref sz),some (.str nm),some (.ref cp),some (.ref np),some (.ref pd),some (.ref pb),some (.ref wd),some (.ref pr),some (.ref ps),some (.ref pv),some (.int at_),some (.ref po),some (.ref pm),x15,x16,none]/\Bg l H H'/\PL H' pd rd ds/\PL H' pb rb bs/\RN H' pr rows/\H' wd=some (.dK kvs1)/\H' ps=some (.lst [.int s0,.int s1])/\PL H' po ro outs/\RL H' pm mb/\mb.length<=3+i/\i<=mb.length/\mb.flatMap defs=mr.flatMap defs++(bs.take i).map Prod.fst) ⟨_,_,mr,rfl,G22,D22,B22,R22,fw22,fs22,O22,M22,lm3,Nat.zero_le _,by simp⟩ ?_ ?_ ?_⟩
 ·rintro i σ H' _ ⟨_,_,_,_,_,_,h,_⟩
  exact SqL.of h.1
 ·rintro i x σ H' hx ⟨x15,x16,mb,rfl,G,D,B,R,fw,fs,O,M,m1,m2,m3⟩
  have hi:i<rb.length:=by have:=(List.getElem?_eq_some_iff.mp hx).1;rwa [List.length_map] at this
  rw [List.getElem?_map] at hx
  obtain ⟨r,hr,rfl⟩:=Option.map_eq_some_iff.mp hx
  obtain ⟨d,hd,er⟩:=B.2.get hr
  obtain ⟨dsh,w1,w8⟩:=ob d (List.mem_of_getElem? hd)
  refine ⟨r,_,rfl,SqT.of er,rfl,_,_,rfl,_,_,rfl,rfl,?_⟩
  obtain ⟨⟨mx,fm,hM⟩,hmI⟩:=M
  have hmx:=hM.length
  rw [List.length_map] at hmx
  have hp2:=pow_pos2 d.2.toNat
  have hp3:=pow_le2 (n:=d.2.toNat) (by lia)
  refine ⟨_,rfl,.inl ⟨rfl,_,SqL.of fm⟩,_,rfl,_,rfl,_,rfl,_,rfl,_,_,rfl,rfl,⟨by lia,by lia,by decide⟩,l,_,rfl,G.2,(by rw [Int.one_mul];exact hp2),(by rw [Int.one_mul];exact Int.lt_of_le_of_lt hp3 (by decide)),fun f H3 f0 f1 g3=>?_⟩
  refine ⟨_,rfl,_,rfl,_,rfl,4,by decide,l,wd,kvs1,kv,d.2,5,rfl,by decide,g3.2,g3.1 _ _ nwl fw,kw,gw11.1.up (by decide),w1,w8,by decide,fun dd v H5 tp hD g5=>⟨(by show 5<=sizeLine;decide),fun pt hpt=>?_⟩⟩
  have s6:=z_c hpt (.tup [.str "box",.str d.1,.int d.2,.int f,v])
  have sd:=tp.say ksh
  have g6:=(g3.trans g5).trans (g5.2.same s6)
  have fm6:=g6.1 _ _ nml fm
  have dr:Dat (upd H5 pt (.tup [.str "box",.str d.1,.int d.2,.int f,v])) (Rw.box d.1 d.2 f dd).dat (.ref pt):=Dat.tup z_b (.cons (Dat.str _) (.cons (Dat.str _) (.cons (Dat.int _) (.cons (Dat.int _) (.cons (hD.same s6) .nil)))))
  refine ⟨pm,_,_,rfl,rfl,fm6,y_b (by lia),?_⟩
  have hM6:=Dats.keepT (g6.keepT G.2) (noL_rows hmI) hM
  have D6:=D.bg G.2 g6 npd
  have B6:=B.bg G.2 g6 npb
  have R6:=R.bg G.2 g6 nrl
  have O6:=O.bg G.2 g6 npo
  have fw6:=g6.1 _ _ nwl fw
  have fs6:=g6.1 _ _ nsl fs
  have G6:=G.trans g6
  generalize upd H5 pt (.tup [.str "box",.str d.1,.int d.2,.int f,v])=H6 at dr fm6 hM6 D6 B6 R6 O6 fw6 fs6 G6 ⊢
  have hI:∀ r∈mb++[Rw.box d.1 d.2 f dd],RwI r:=fun r hr=>by
   rcases List.mem_append.mp hr with h | h
   ·exact hmI r h
   ·rw [List.mem_singleton.mp h]
    exact .inr ⟨_,_,_,_,rfl,dsh,sd⟩
  refine ⟨_,_,mb++[.box d.1 d.2 f dd],rfl,G6.set hpmH nml _,D6.set fm6 nmd _,B6.set fm6 nmb _,R6.set fm6 nmr _,by rw [z_j nmw];exact fw6,by rw [z_j nms];exact fs6,O6.set fm6 nmo _,⟨⟨_,z_b,?_⟩,hI⟩,by rw [List.length_append,List.length_singleton];lia,by rw [List.length_append,List.length_singleton];lia,by rw [List.flatMap_append,m3,z_y hd,List.map_append,List.append_assoc];rfl⟩
  rw [List.map_append]
  exact (Dats.keepT (KeepT.lst fm6 _) (noL_rows hmI) hM6).append (.cons (Dat.keepT (KeepT.lst fm6 _) (noL_box sd.noL) dr) .nil)
 rintro σ H30 ⟨x15,x16,mr2,rfl,G30,D30,B30,R30,fw30,fs30,O30,M30,m1,m2,m3⟩
 rw [List.length_map] at m1 m2 m3
 rw [List.take_of_length_le (by lia)] at m3
 obtain ⟨⟨mx,fm30,hM30⟩,hmI⟩:=M30
 have hmx:=hM30.length
 rw [List.length_map] at hmx
 refine ⟨_,rfl,pm,rfl,⟨_,SqL.of fm30⟩,for_list (xs:=mx) (fun i σ H'=>∃ (x17:Option V) (rows2:List Rw) (ps2:Addr) (t0 t1:Int),σ=[some (.ref l),some (.ref pl),some (.ref sz),some (.str nm),some (.ref cp),some (.ref np),some (.ref pd),some (.ref pb),some (.ref wd),some (.ref pr),some (.ref ps2),some (.ref pv),some (.int at_),some (.ref po),some (.ref pm),x15,x16,x17]/\Bg l H H'/\PL H' pd rd ds/\RN H' pr rows2/\rows2.Perm (mr2.take i++rows)/\H' ps2=some (.lst [.int t0,.int t1])/\t0=s0+i/\H ps2=none/\ps2≠l/\ps2≠pr/\PL H' po ro outs/\H' pm=some (.lst mx)/\Dats H' (mr2.map Rw.dat) mx) ⟨_,rows,ps,s0,s1,rfl,G30,D30,R30,List.Perm.refl _,fs30,by lia,hpsH,nsl,nrs.symm,O30,fm30,hM30⟩ ?_ ?_ ?_⟩
 ·rintro i σ H' _ ⟨_,_,_,_,_,_,_,_,_,_,_,_,_,_,_,_,h,_⟩
  exact SqL.of h
 ·rintro i x σ H' hx ⟨x17,rows2,ps2,t0,t1,rfl,G,D,R,prl,fs,et0,hp2H,n1,n2,O,fm,hM⟩
  have hi:i<mx.length:=(List.getElem?_eq_some_iff.mp hx).1
  obtain ⟨dr,hdr,hxd⟩:=hM.get hx
  rw [List.getElem?_map] at hdr
  obtain ⟨rw_,hrw,rfl⟩:=Option.map_eq_some_iff.mp hdr
  have hrI:=hmI rw_ (List.mem_of_getElem? hrw)
  obtain ⟨⟨xs2,fr,hX⟩,hI2⟩:=R
  have hxl:=hX.length
  rw [List.length_map] at hxl
  have hrl:=prl.length_eq
  rw [List.length_append,List.length_take] at hrl
  refine ⟨_,rfl,.inl ⟨rfl,_,SqL.of fr⟩,_,rfl,_,rfl,_,_,rfl,.inl ⟨_,SqL.of fr,rfl⟩,_,_,rfl,rfl,l,_,rfl,G.2,by lia,Int.lt_trans (show (xs2.length:Int)+1<100 by lia) (by decide),fun e H8 e0 e1 g8=>?_⟩
  have fr8:=g8.1 _ _ nrl fr
  refine ⟨_,rfl,pr,_,_,_,rfl,rfl,fr8,e0,by lia,y_b (by lia),?_⟩
  have K9:=KeepT.lst fr8 (.lst (xs2.take e.toNat++x::xs2.drop e.toNat))
  have T9:=(g8.keepT G.2).trans K9
  have G9:=(G.trans g8).set hprH nrl (.lst (xs2.take e.toNat++x::xs2.drop e.toNat))
  have D9:=(D.bg G.2 g8 npd).set fr8 nrd (.lst (xs2.take e.toNat++x::xs2.drop e.toNat))
  have O9:=(O.bg G.2 g8 npo).set fr8 nor.symm (.lst (xs2.take e.toNat++x::xs2.drop e.toNat))
  have fs9:(upd H8 pr (.lst (xs2.take e.toNat++x::xs2.drop e.toNat))) ps2=some (.lst [.int t0,.int t1]):=by rw [z_j n2];exact g8.1 _ _ n1 fs
  have fm9:(upd H8 pr (.lst (xs2.take e.toNat++x::xs2.drop e.toNat))) pm=some (.lst mx):=by rw [z_j nmr.symm];exact g8.1 _ _ nml fm
  have hM9:=Dats.keepT T9 (noL_rows hmI) hM
  have hx9:=Dat.keepT T9 hrI.noL hxd
  have R9:RN (upd H8 pr (.lst (xs2.take e.toNat++x::xs2.drop e.toNat))) pr (rows2.take e.toNat++rw_::rows2.drop e.toNat):=⟨⟨_,z_b,by
   rw [List.map_append,List.map_cons,List.map_take,List.map_drop]
   exact ins_dats (Dats.keepT T9 (noLs_rw hI2) hX) hx9 _⟩,fun r hr=>by
   rcases ins_mem hr with rfl | h
   ·exact hrI.noL
   ·exact hI2 r h⟩
  have fr9:=z_b (H:=H8) (a:=pr) (o:=.lst (xs2.take e.toNat++x::xs2.drop e.toNat))
  generalize upd H8 pr (.lst (xs2.take e.toNat++x::xs2.drop e.toNat))=H9 at K9 T9 G9 D9 O9 fs9 fm9 hM9 hx9 R9 fr9 ⊢
  obtain ⟨pt,ys,s,sv,rfl,hpt,hsd,hsv⟩:=hrI.last hx9
  refine ⟨_,rfl,ps2,_,_,_,rfl,rfl,SqL.of fs9,rfl,_,_,rfl,rfl,_,rfl,ps2,_,_,_,rfl,rfl,SqL.of fs9,rfl,_,rfl,_,rfl,pt,_,_,_,rfl,rfl,SqT.of hpt,atI_last _ _,s,sv,rfl,hsd,hsv,fun c H10 c1 _ s10=>⟨_,_,rfl,rfl,(by show 2<=sizeLine;decide),fun pz hpz=>?_⟩⟩
  have s11:=s10.trans (z_c hpz (.lst [.int (t0+1),.int (t1+c)]))
  have G10:=G9.trans (G9.2.same s10)
  exact ⟨_,_,pz,t0+1,t1+c,rfl,G9.trans (G9.2.same s11),D9.same s11,R9.same s11,ins_perm2 _ prl hrw,z_b,by rw [Int.natCast_add];show t0+1=s0+((i:Int)+1);lia,(bgFree G10 hpz).2,G10.2.ne hpz,(z_g (s10 _ _ fr9) hpz).symm,O9.same s11,s11 _ _ fm9,hM9.same s11⟩
 rintro σ H40 ⟨x17,rows2,ps2,t0,tt1,rfl,G,D,R,prl,fs,et0,hp2H,n1,n2,O,fm,hM⟩
 obtain ⟨⟨xs2,fr,hX⟩,hI2⟩:=R
 rw [List.take_of_length_le (by lia)] at prl
 have hrl:=prl.length_eq
 rw [List.length_append] at hrl
 have ezz:zs=ds.map Prod.fst++(bs.map Prod.fst++(Dn++(mr.flatMap defs++z4)++Ln)):=by rw [<-ez4,<-ez3,<-hz2,<-hz1]
 have hok:=part_nm (lk:=lkL Ps) (nm:=nm) (outs:=outs) ezz hnd (fun z h=>(hzs z h).2) prl hmI hrJ m3 pD pL
 have hsz':=part_sz (lk:=lkL Ps) (n:=Ps.length) (nm:=nm) (ds:=ds) (outs:=outs) prl hmI
 have hbr:=part_br hg (nm:=nm) prl hmI hrJ (by lia) hO
 have hJ2:∀ r∈rows2,RwJ (lkL Ps) r:=fun r hr=>by
  rcases List.mem_append.mp (prl.mem_iff.mp hr) with h | h
  ·exact .inl (hmI r h)
  ·exact hrJ r h
 have hcap:(((pthF (lkL Ps) (Ps.length+1) ⟨nm,ds,outs,rows2⟩).length:Nat):Int)=t0:=by
  rw [hsz',et0,es0,Int.natCast_add]
  lia
 refine ⟨_,rfl,_,rfl,pd,_,rfl,.inl ⟨SqL.of D.1,fun t1 ht1=>?_⟩⟩
 have u1:=z_c ht1 (.tup (rd.map V.ref))
 have v1:=z_b (H:=H40) (a:=t1) (o:=.tup (rd.map V.ref))
 generalize upd H40 t1 (.tup (rd.map V.ref))=H41 at u1 v1 ⊢
 refine ⟨_,rfl,po,_,rfl,.inl ⟨SqL.of (u1 _ _ O.1),fun t2 ht2=>?_⟩⟩
 have u2:=z_c ht2 (.tup (ro.map V.ref))
 have v2:=z_b (H:=H41) (a:=t2) (o:=.tup (ro.map V.ref))
 generalize upd H41 t2 (.tup (ro.map V.ref))=H42 at u2 v2 ⊢
 have u12:=u1.trans u2
 refine ⟨_,rfl,pr,_,rfl,.inl ⟨SqL.of (u12 _ _ fr),fun t3 ht3=>?_⟩⟩
 have u3:=z_c ht3 (.tup xs2)
 have v3:=z_b (H:=H42) (a:=t3) (o:=.tup xs2)
 generalize upd H42 t3 (.tup xs2)=H43 at u3 v3 ⊢
 have u13:=u12.trans u3
 refine ⟨(by show 4<=sizeLine;decide),fun t4 ht4=>?_⟩
 have u4:=z_c ht4 (.tup [.str nm,.ref t1,.ref t2,.ref t3])
 have v4:=z_b (H:=H43) (a:=t4) (o:=.tup [.str nm,.ref t1,.ref t2,.ref t3])
 generalize upd H43 t4 (.tup [.str nm,.ref t1,.ref t2,.ref t3])=H44 at u4 v4 ⊢
 have u14:=u13.trans u4
 refine ⟨_,rfl,(by show 2<=sizeLine;decide),fun t5 ht5=>?_⟩
 have u5:=z_c ht5 (.tup [.ref t4,.ref ps2])
 have u15:=u14.trans u5
 refine q t5 ⟨nm,ds,outs,rows2⟩ (.ref t4) ps2 tt1 _ ⟨hnm,od,os22,ld3,lo3,by show rows2.length<=20;lia,hJ2,hok⟩ rfl hbr (G.trans (G.2.same u15)) z_b (Dat.tup (u5 _ _ v4) (.cons (Dat.str _) (.cons (Dat.tup ((u2.trans (u3.trans (u4.trans u5))) _ _ v1) (D.2.same u15).dats) (.cons (Dat.tup ((u3.trans (u4.trans u5)) _ _ v2) (O.2.same u15).dats) (.cons (Dat.tup ((u4.trans u5) _ _ v3) (hX.same u15)) .nil))))) hp2H n1 (by rw [hcap];exact u15 _ _ fs) (by rw [hcap];lia)
theorem ok_L_plan(T:Tx w K mg A)(G_L_pool:FnOk P w K mg base CX0 2 A.a_L_pool A.d_L_pool ["_law_bag_here", "_law_many"] sp_poolD)(G_L_take:FnOk P w K mg base CX0 1 A.a_L_take A.d_L_take ["_law_bag_here", "_law_many"] y_v)(G_L_part:FnOk P w K mg base CX0 12 A.a_L_part A.d_L_part ["_law_bag_here", "_law_plan_here", "_law_sizes", "_law_name", "_law_cap"] sp_part9):FnOk P w K mg base CX0 13 A.a_L_plan A.d_L_plan ["_law_bag_here"] sp_plan9:=by
 refine T.F_L_plan.ok sc_L_plan (fun vs H Q E h=>?_) (fun cdv A' outer s H vs Q E hr h=>?_)
 ·obtain ⟨l,rfl,hb,q⟩:=h
  rfl
 obtain ⟨l,rfl,hb,q⟩:=h
 have hu:=hu_of hr
 refine ⟨_,(z_f (z_r (i:=1) sc_L_plan.nd rfl (Or.inl rfl) (z_k G_L_pool (hr.mono (by first | decide | lia)) rfl T.M_L_pool T.F_L_pool.kp T.B_L_pool .nil pass0 (z_a (pv 0) (z_a z_e z_d))))
  (z_f (z_r (i:=2) sc_L_plan.nd rfl (Or.inl rfl) (y_h z_d))
  (z_f (z_r (i:=3) sc_L_plan.nd rfl (Or.inl rfl) pe_dnewK)
  (z_f (z_r (i:=4) sc_L_plan.nd rfl (Or.inl rfl) (z_o y_k z_e (z_k G_L_take (hr.mono (by first | decide | lia)) rfl T.M_L_take T.F_L_take.kp T.B_L_take .nil pass0 (z_a (pv 0) (z_a z_e z_d)))))
  (z_f (x_e PassesOwn.never rfl (y_o rfl T.range (z_a (pv 4) z_d)) (z_v (i:=5) sc_L_plan.nd rfl (Or.inl rfl))
    (z_f (ps_asg (z_k G_L_part (hr.mono (by first | decide | lia)) rfl T.M_L_part T.F_L_part.kp T.B_L_part .nil pass0 (z_a (pv 0) (z_a (pv 2) (z_a (pv 3) (z_a (z_l z_x (pv 1) (pv 5) (fun _ _=>rfl)) (z_a (z_l z_x (y_h (z_a (y_h (z_a z_e (z_a z_e z_d))) (z_a (y_h (z_a z_e (z_a z_e z_d))) z_d))) (y_g call_int1 rfl T.int PyProof.Rows.boot_int (z_a (pe_cmpR op_eq (z_o y_k (pv 5) z_e) (pv 4) (nomark _)) z_d)) (fun _ _=>rfl)) z_d)))))) (pg_tup0 rfl (y_e (z_v (i:=6) sc_L_plan.nd rfl (Or.inl rfl)) (y_e (z_v (i:=7) sc_L_plan.nd rfl (Or.inl rfl)) pgs_nil))))
  (z_f (x_b (pe_bmN PySem.F.plainAttrs_list PySem.F.slot_list_append PySem.F.type_list_append y_u (pv 2) (z_a (pv 6) z_d)))
  (z_i (ps_dput hu (pv 3) (z_l z_n (pv 6) z_e (fun _ _=>rfl)) (pv 7) rfl)))))
  (z_i (z_z (pv 2)))))))),?_⟩
 refine ⟨_,rfl,l,3,rfl,hb,by decide,fun np zs H1 hzl hnd hzs npl hnp g1 fn1=>?_⟩
 refine ⟨(by show 0<=sizeLine;decide),fun pl hpl=>?_⟩
 have nll:pl≠l:=g1.2.ne hpl
 have g2:=g1.trans (Bg.new g1.2 hpl (.lst []))
 have fp2:=z_b (H:=H1) (a:=pl) (o:=.lst [])
 have fn2:=(z_c hpl (.lst [])) _ _ fn1
 have nln:np≠pl:=z_g fn1 hpl
 have hplH:=(bgFree g1 hpl).2
 dsimp only [gName]
 generalize upd H1 pl (.lst [])=H2 at g2 fp2 fn2 ⊢
 intro sz hsz
 have nsl:sz≠l:=g2.2.ne hsz
 have nsp:pl≠sz:=z_g fp2 hsz
 have nsn:np≠sz:=z_g fn2 hsz
 have hszH:=(bgFree g2 hsz).2
 have g3:=g2.trans (Bg.new g2.2 hsz (.dK []))
 have fz3:=z_b (H:=H2) (a:=sz) (o:=.dK [])
 have fp3:=(z_c hsz (.dK [])) _ _ fp2
 have fn3:=(z_c hsz (.dK [])) _ _ fn2
 show tSeq _ _ _ [some (.ref l),some (.ref np),some (.ref pl),some (.ref sz),none,none,none,none] (upd H2 sz (.dK []))
 generalize upd H2 sz (.dK [])=H3 at g3 fz3 fp3 fn3 ⊢
 clear g2 fp2 fn2 g1 fn1 hpl hsz
 refine ⟨_,rfl,l,3,rfl,g3.2,by decide,by decide,fun d H4 d0 d1 g4=>⟨_,_,rfl,rfl,?_⟩⟩
 refine ⟨_,rfl,_,rfl,by lia,by lia,x_r (lo:=0) (fun i σ H'=>∃ (x5 x6 x7:Option V) (vs':List V) (Ps:List Pt),σ=[some (.ref l),some (.ref np),some (.ref pl),some (.ref sz),some (.int (1+d)),x5,x6,x7]/\Bg l H H'/\H' np=some (.lst (zs.map V.str))/\H' pl=some (.lst vs')/\Dats H' (Ps.map Pt.dat) vs'/\Good Ps/\Ps.length=i/\Ps.map Pt.nm=zs.take i/\Szs H' sz Ps [l,pl]/\∀ P∈Ps,szN Ps P<=60) ⟨_,_,_,[],[],rfl,g3.trans g4,g4.1 _ _ npl fn3,g4.1 _ _ nll fp3,.nil,.nil,rfl,rfl,⟨[],g4.1 _ _ nsl fz3,Nat.le_refl _,(fun _ h=>nomatch h)⟩,(fun _ h=>nomatch h)⟩ ?_ ?_⟩
 ·rintro i σ H5 hi ⟨x5,x6,x7,vs',Ps,rfl,G5,fn5,fp5,D5,hg,hPl,hPn,sz5,h60⟩
  obtain ⟨z,hz⟩:∃ z,zs[i]? = some z:=⟨zs[i]'(by lia),List.getElem?_eq_getElem _⟩
  have ez:atI (zs.map V.str) (0+(i:Int))=some (.str z):=by rw [Int.zero_add];exact y_c (by rw [List.getElem?_map,hz];rfl)
  refine ⟨_,rfl,_,rfl,_,rfl,_,rfl,_,rfl,np,_,_,_,rfl,rfl,SqL.of fn5,ez,?_⟩
  refine ⟨(by show 2<=sizeLine;decide),fun p1 h1=>?_⟩
  have v6:=z_c h1 (.lst [.int 24,.int 160])
  have f16:=z_b (H:=H5) (a:=p1) (o:=.lst [.int 24,.int 160])
  have n1l:p1≠l:=G5.2.ne h1
  generalize upd H5 p1 (.lst [.int 24,.int 160])=H6 at v6 f16 ⊢
  refine ⟨(by show 2<=sizeLine;decide),fun p2 h2=>?_⟩
  have n2l:p2≠l:=(G5.2.same v6).2.ne h2
  have v7':=z_c h2 (.lst [.int 60,.int 200])
  have v7:=v6.trans v7'
  have f17:=v7' _ _ f16
  have f27:=z_b (H:=H6) (a:=p2) (o:=.lst [.int 60,.int 200])
  generalize upd H6 p2 (.lst [.int 60,.int 200])=H7 at v7 v7' f17 f27 ⊢
  refine ⟨(by show 2<=sizeLine;decide),fun p3 h3=>?_⟩
  have v8':=z_c h3 (.lst [.ref p1,.ref p2])
  have v8:=v7.trans v8'
  have f18:=v8' _ _ f17
  have f28:=v8' _ _ f27
  have f38:=z_b (H:=H7) (a:=p3) (o:=.lst [.ref p1,.ref p2])
  generalize upd H7 p3 (.lst [.ref p1,.ref p2])=H8 at v8 v8' f18 f28 f38 ⊢
  clear v6 v7 v7' v8' f16 f17 f27 h1 h2 h3
  have G8:=G5.trans (G5.2.same v8)
  have fp8:=v8 _ _ fp5
  have D8:=D5.same v8
  have sz8:=sz5.same v8
  obtain ⟨pk,e0,e1,hat,fk,h9,h60',nkl⟩:∃ (pk:Addr) (e0 e1:Int),atI [V.ref p1,V.ref p2] (if decide (V.int (0+(i:Int)+1)=V.int (1+d))=true then 1 else 0)=some (.ref pk)/\H8 pk=some (.lst [.int e0,.int e1])/\9<=e0/\e0<=60/\pk≠l:=by
   by_cases c:V.int (0+(i:Int)+1)=V.int (1+d)
   ·rw [if_pos (decide_eq_true c)]
    exact ⟨p2,60,200,rfl,f28,by decide,by decide,n2l⟩
   ·rw [if_neg (fun h=>c (of_decide_eq_true h))]
    exact ⟨p1,24,160,rfl,f18,by decide,by decide,n1l⟩
  refine ⟨_,rfl,_,_,rfl,rfl,_,rfl,rfl,.inr ⟨_,rfl,p3,_,_,_,rfl,rfl,SqL.of f38,hat,?_⟩⟩
  have hzm:=List.mem_of_getElem? hz
  refine ⟨l,pl,sz,pk,z,vs',Ps,e0,e1,rfl,G8.2,(hzs z hzm).1,fk,nkl,h9,fp8,nll,D8,hg,by lia,sz8.sub (fun a h=>by rw [List.mem_singleton.mp h];exact List.mem_cons_self),fun t P v ps s1 H9 hP hPnm hbr g9 ft dP hps npsl fs9 hcap=>?_⟩
  refine ⟨t,_,rfl,SqT.of ft,rfl,_,_,rfl,_,_,rfl,rfl,?_⟩
  have hj:=x_s hg
  have nLP:noLs (Ps.map Pt.dat)=true:=z_u fun d hd=>by
   obtain ⟨P,hP,rfl⟩:=List.mem_map.mp hd
   exact (hj P hP).noL
  have D9:=D8.keepT (g9.keepT G8.2) nLP
  have fp9:=g9.1 _ _ nll fp8
  have G9:=G8.trans g9
  have fn9:=g9.1 _ _ npl (v8 _ _ fn5)
  obtain ⟨ks,fz8,hk8,hks8⟩:=sz8
  have fz9:=g9.1 _ _ nsl fz8
  have lvs:=D9.length
  rw [List.length_map] at lvs
  have hpsp:ps≠pl:=(z_g fp8 hps).symm
  have hpss:ps≠sz:=(z_g fz8 hps).symm
  obtain ⟨r,pd,po,pr,ds,os,rs,rfl,q1,q2,q3,q4,dq1,dq2,dq3⟩:=x_c dP
  show tSeq _ _ _ [some (.ref l),some (.ref np),some (.ref pl),some (.ref sz),some (.int (1+d)),some (.int (0+(i:Int))),some (.ref r),some (.ref ps)] H9
  refine ⟨_,rfl,.inl ⟨rfl,_,SqL.of fp9⟩,_,rfl,pl,_,_,rfl,rfl,fp9,y_b (by lia),?_⟩
  have T10:=KeepT.lst fp9 (.lst (vs'++[.ref r]))
  have G10:=G9.set hplH nll (.lst (vs'++[.ref r]))
  have fp10:=z_b (H:=H9) (a:=pl) (o:=.lst (vs'++[.ref r]))
  have fn10:(upd H9 pl (.lst (vs'++[.ref r]))) np=some (.lst (zs.map V.str)):=by rw [z_j nln];exact fn9
  have fz10:(upd H9 pl (.lst (vs'++[.ref r]))) sz=some (.dK ks):=by rw [z_j nsp.symm];exact fz9
  have fs10:(upd H9 pl (.lst (vs'++[.ref r]))) ps=some (.lst [.int (((pthF (lkL Ps) (Ps.length+1) P).length:Nat):Int),.int s1]):=by rw [z_j hpsp];exact fs9
  have a10:∀ a xs,a∉[l,pl]->H8 a=some (.lst xs)->(upd H9 pl (.lst (vs'++[.ref r]))) a=some (.lst xs):=fun a xs n e=>by
   simp only [List.mem_cons,List.not_mem_nil,or_false,not_or] at n
   rw [z_j n.2]
   exact g9.1 _ _ n.1 e
  have q10:=T10 _ _ q1
  have D10:=D9.keepT T10 nLP
  have dP10:=Dat.keepT T10 hP.noL dP
  generalize upd H9 pl (.lst (vs'++[.ref r]))=H10 at T10 G10 fp10 fn10 fz10 fs10 a10 q10 D10 dP10 ⊢
  refine ⟨_,rfl,_,rfl,_,rfl,r,_,_,_,rfl,rfl,SqT.of q10,rfl,sz,_,rfl,DPut.k (k:=.inr P.nm) (v:=.ref ps) fz10 (y_b (by lia)),?_⟩
  have T11:=KeepT.dict fz10 (.dK (putK ks (.inr P.nm) (.ref ps)))
  have ezd:zs.drop i=z::zs.drop (i+1):=by
   obtain ⟨h,rfl⟩:=List.getElem?_eq_some_iff.mp hz
   exact List.drop_eq_getElem_cons h
  have hne:∀ q∈Ps,q.nm≠P.nm:=fun q hq=>by
   have hq':q.nm∈zs.take i:=by rw [<-hPn];exact List.mem_map.mpr ⟨q,hq,rfl⟩
   have nd:=hnd
   rw [<-List.take_append_drop i zs,ezd] at nd
   rw [hPnm]
   exact (List.pairwise_append.mp nd).2.2 _ hq' _ List.mem_cons_self
  refine ⟨_,_,_,vs'++[.ref r],Ps++[P],rfl,G10.set hszH nsl _,by rw [z_j nsn];exact fn10,by rw [z_j nsp];exact fp10,?_,Good.snoc hg hP hne hbr,by rw [List.length_append,hPl];rfl,?_,Szs.snoc hg hP (by lia) hne hk8 (fun q hq=>?_) z_b (by rw [z_j hpss];exact fs10) ?_,fun Q hQ=>?_⟩
  ·rw [List.map_append]
   exact (D10.keepT T11 nLP).append (.cons (Dat.keepT T11 hP.noL dP10) .nil)
  ·rw [List.map_append,hPn,z_y hz,<-hPnm]
   rfl
  ·obtain ⟨a,s1,e1,e2,e3⟩:=hks8 q hq
   refine ⟨a,s1,e1,?_,e3⟩
   have nas:a≠sz:=fun e=>by rw [e,fz8] at e2;cases e2
   rw [z_j nas]
   exact a10 a _ e3 e2
  ·simp only [List.mem_cons,List.not_mem_nil,or_false,not_or]
   exact ⟨npsl,hpsp⟩
  ·rcases List.mem_append.mp hQ with h | h
   ·rw [szN_old hg h (by lia)]
    exact h60 Q h
   ·rw [List.mem_singleton.mp h,szN_new hg hP]
    lia
 ·rintro σ H5 ⟨x5,x6,x7,vs',Ps,rfl,G5,fn5,fp5,D5,hg,hPl,hPn,sz5,h60⟩
  exact ⟨_,rfl,q pl vs' Ps _ G5 fp5 D5 hg (by lia) (by lia) h60 nll⟩
theorem ok_L_headed(T:Tx w K mg A)(n:Nat)(G_L_headed:FnOk P w K mg base CX0 (n+2) A.a_L_headed A.d_L_headed ["_law_thing", "_law_head"] (sp_headed n)):FnOk P w K mg base CX0 (n+3) A.a_L_headed A.d_L_headed ["_law_thing", "_law_head"] (sp_headed (n+1)):=by
 refine T.F_L_headed.ok sc_L_headed (fun vs H Q E h=>?_) (fun cdv A' outer s H vs Q E hr h=>?_)
 ·obtain ⟨d,v,a,rfl,hs,hD,ha,q⟩:=h
  rfl
 obtain ⟨d,v,a,rfl,hs,hD,ha,q⟩:=h
 refine ⟨_,(z_f (x_a (z_s op_eq (z_l z_n (pv 0) z_e (fun _ _=>rfl)) z_t (nomark _)) (z_i (z_z (y_d (z_a z_t (z_a (z_o z_w (pv 1) (z_l z_n (pv 0) z_e (fun _ _=>rfl))) z_d))))) y_a)
  (z_f (z_r (i:=2) sc_L_headed.nd rfl (Or.inl rfl) (y_h z_d))
  (z_f (x_e PassesOwn.never rfl (pi_tup0 (pv 0)) (z_v (i:=3) sc_L_headed.nd rfl (Or.inl rfl))
    (z_f (x_a (PW.pt (pw_and (pt_truth0 (z_p (y_s (T := "tuple")) rfl T.isinstance PyProof.Rows.boot_isinstance (z_a (pv 3) (z_a (x_t (v:=.ty "tuple") rfl T.tuple PyProof.Rows.boot_tuple rfl) z_d))) (fun _=>rfl)) (pw_and1 (pt_truth0 (z_p (y_s (T := "str")) rfl T.isinstance PyProof.Rows.boot_isinstance (z_a (z_l z_n (pv 3) z_e (fun _ _=>rfl)) (z_a (x_t (v:=.ty "str") rfl T.str PyProof.Rows.boot_str rfl) z_d))) (fun _=>rfl))))) (z_i (z_r (i:=3) sc_L_headed.nd rfl (Or.inl rfl) (z_k G_L_headed (hr.mono (by first | decide | lia)) rfl T.M_L_headed T.F_L_headed.kp T.B_L_headed .nil pass0 (z_a (pv 3) (z_a (pv 1) z_d))))) y_a)
  (z_i (x_b (pe_bmN PySem.F.plainAttrs_list PySem.F.slot_list_append PySem.F.type_list_append y_u (pv 2) (z_a (pv 3) z_d))))))
  (z_i (z_z (y_g y_w rfl T.tuple PyProof.Rows.boot_tuple (z_a (pv 2) z_d))))))),?_⟩
 have hNL:=noL_ren (a:=a) hs
 rcases hs with ⟨x,rfl,hx,hk⟩ | ⟨z,hd,subs,h1,h2,h3,h4,h5,h6,rfl,h7⟩
 ·rw [renF_wire] at q
  obtain ⟨p,xs,rfl,hp,hxs⟩:=hD.tupI
  obtain ⟨x0,r0,rfl,h0,hr0⟩:=hxs.consI
  obtain ⟨x1,r1,rfl,h1,hr1⟩:=hr0.consI
  have f0:x0 = .str "wire" := by unfold Dat at h0;exact h0
  have f1:x1 = .str x:=by unfold Dat at h1;exact h1
  subst f0 f1
  refine ⟨_,rfl,p,_,_,_,rfl,rfl,SqT.of hp,(show atI _ ((0:Nat):Int)=_ from y_c rfl),rfl,_,rfl,?_⟩
  refine ite_t (by decide) ?_
  refine ⟨_,rfl,_,rfl,p,_,_,_,rfl,rfl,SqT.of hp,(show atI _ ((1:Nat):Int)=_ from y_c rfl),_,_,rfl,rfl,small (by lia),(by show 2<=sizeLine;decide),fun t ht=>?_⟩
  exact q _ _ (z_c ht _) (Dat.tup z_b (.cons (Dat.str _) (.cons (Dat.str _) .nil)))
 ·rw [renF_node a z n h2 h3] at q hNL
  obtain ⟨p,xs,rfl,hp,hX⟩:=hD.tupI
  have hxl:=hX.length
  have hX0:=hX
  obtain ⟨x0,r0,rfl,h0,hr0⟩:=hX0.consI
  have e0:x0 = .str z:=by unfold Dat at h0;exact h0
  subst e0
  refine ⟨_,rfl,p,_,_,_,rfl,rfl,SqT.of hp,(show atI _ ((0:Nat):Int)=_ from y_c rfl),rfl,_,rfl,?_⟩
  refine ite_f (decide_eq_false fun h=>h2 (by injection h)) ?_
  refine ⟨(by show 0<=sizeLine;decide),fun pl hpl=>?_⟩
  have s1:=z_c hpl (.lst [])
  have hlen:(V.str z::r0).length<=6:=by rw [<-hxl,List.length_cons,List.length_append];lia
  refine ⟨_,rfl,p,rfl,⟨_,SqT.of (s1 _ _ hp)⟩,for_tup (xs:=V.str z::r0) (fun i σ H'=>∃ (x:Option V) (zs:List V),σ=[some (.ref p),some (.str a),some (.ref pl),x]/\Same H H'/\H' pl=some (.lst zs)/\zs.length=i/\Dats H' ((PyData.str z::(hd++subs.map (renF a n))).take i) zs) ⟨_,[],rfl,s1,z_b,rfl,.nil⟩ ?_ ?_ ?_⟩
  ·rintro i σ H' _ ⟨_,_,rfl,s',_⟩
   exact SqT.of (s' _ _ hp)
  ·rintro i y σ H' hy ⟨x,zs,rfl,s',fp,hzl,hzd⟩
   obtain ⟨e,hey,hyd⟩:=hX.get hy
   have hi:i<(V.str z::r0).length:=(List.getElem?_eq_some_iff.mp hy).1
   have hyd':=hyd.same s'
   obtain ⟨e',he',hc⟩:=say_get (z:=z) (renF a n) h6 h7 hey
   have fin:∀ (y':V) (H2:Hp),Same H' H2->Dat H2 e' y'->∃ (x:Option V) (zs':List V),[some (V.ref p),some (.str a),some (.ref pl),some y']=[some (.ref p),some (.str a),some (.ref pl),x]/\Same H (upd H2 pl (.lst (zs++[y'])))/\(upd H2 pl (.lst (zs++[y']))) pl=some (.lst zs')/\zs'.length=i+1/\Dats (upd H2 pl (.lst (zs++[y']))) ((PyData.str z::(hd++subs.map (renF a n))).take (i+1)) zs':=fun y' H2 s2 hy'=>by
    have fp2:=s2 _ _ fp
    have keep:KeepT H2 (upd H2 pl (.lst (zs++[y']))):=KeepT.lst fp2 _
    refine ⟨_,zs++[y'],rfl,x_u (s'.trans s2) hpl _,z_b,by rw [List.length_append,hzl];rfl,?_⟩
    rw [z_y he']
    have hall:=noLs_of hNL
    refine Dats.append (Dats.keepT keep (z_u fun d hd=>hall d (List.mem_of_mem_take hd)) (hzd.same s2)) (.cons (Dat.keepT keep (hall e' (List.mem_of_getElem? he')) hy') .nil)
   have app:∀ (y':V) (H2:Hp),Same H' H2->H2 pl=some (.lst zs)/\zs.length<sizeLine:=fun y' H2 s2=>⟨s2 _ _ fp,y_b (by lia)⟩
   rcases hc with ⟨(⟨w,rfl⟩ | ⟨j,rfl⟩ | ⟨m,ms,rfl⟩),rfl⟩ | ⟨hsd,rfl⟩
   ·have f:y = .str w:=by unfold Dat at hyd;exact hyd
    subst f
    refine ⟨_,rfl,_,_,false,rfl,TyOf.str w,rfl,_,rfl,iteF (iteF ?_)⟩
    obtain ⟨g1,g2⟩:=app (.str w) H' (Same.refl _)
    exact ⟨_,rfl,.inl ⟨rfl,_,SqL.of g1⟩,_,rfl,pl,_,_,rfl,rfl,g1,g2,fin _ _ (Same.refl _) hyd'⟩
   ·have f:=hyd.intI
    subst f
    refine ⟨_,rfl,_,_,false,rfl,TyOf.int j,rfl,_,rfl,iteF (iteF ?_)⟩
    obtain ⟨g1,g2⟩:=app (.int j) H' (Same.refl _)
    exact ⟨_,rfl,.inl ⟨rfl,_,SqL.of g1⟩,_,rfl,pl,_,_,rfl,rfl,g1,g2,fin _ _ (Same.refl _) hyd'⟩
   ·obtain ⟨py,ys,rfl,hpy⟩:=ints_hd hyd'
    refine ⟨_,rfl,_,_,true,rfl,TyOf.tup hpy,rfl,_,rfl,iteT ?_⟩
    refine ⟨_,rfl,py,_,_,_,rfl,rfl,SqT.of hpy,(show atI _ ((0:Nat):Int)=_ from y_c rfl),_,_,false,rfl,TyOf.int m,rfl,_,rfl,iteF ?_⟩
    obtain ⟨g1,g2⟩:=app (.ref py) H' (Same.refl _)
    exact ⟨_,rfl,.inl ⟨rfl,_,SqL.of g1⟩,_,rfl,pl,_,_,rfl,rfl,g1,g2,fin _ _ (Same.refl _) hyd'⟩
   ·obtain ⟨py,z',ys,rfl,hpy⟩:=say_hd hsd hyd'
    refine ⟨_,rfl,_,_,true,rfl,TyOf.tup hpy,rfl,_,rfl,iteT ?_⟩
    refine ⟨_,rfl,py,_,_,_,rfl,rfl,SqT.of hpy,(show atI _ ((0:Nat):Int)=_ from y_c rfl),_,_,true,rfl,TyOf.str z',rfl,_,rfl,iteT ?_⟩
    refine ⟨_,rfl,_,rfl,e,_,a,rfl,hsd,hyd',ha,fun v' H3 s3 hv'=>?_⟩
    obtain ⟨g1,g2⟩:=app v' H3 s3
    exact ⟨_,rfl,.inl ⟨rfl,_,SqL.of g1⟩,_,rfl,pl,_,_,rfl,rfl,g1,g2,fin _ _ s3 hv'⟩
  ·rintro σ H' ⟨x,zs,rfl,s',fp,hzl,hzd⟩
   rw [List.take_of_length_le (by rw [List.length_cons,List.length_append] at hxl ⊢;rw [List.length_map];lia)] at hzd
   refine ⟨_,rfl,pl,_,rfl,.inl ⟨SqL.of fp,fun pt hpt=>?_⟩⟩
   exact q _ _ (s'.trans (z_c hpt _)) (Dat.tup z_b (hzd.same (z_c hpt _)))
theorem ok_L_same(T:Tx w K mg A)(n:Nat)(G_L_same:FnOk P w K mg base CX0 (n+2) A.a_L_same A.d_L_same ["_law_found", "_law_due"] (sp_sameD n)):FnOk P w K mg base CX0 (n+3) A.a_L_same A.d_L_same ["_law_found", "_law_due"] (sp_sameD (n+1)):=by
 refine T.F_L_same.ok sc_L_same (fun vs H Q E h=>?_) (fun cdv A' outer s H vs Q E hr h=>?_)
 ·obtain ⟨d,v,u,rfl,hk,hv,hu,q⟩:=h
  rfl
 obtain ⟨d,v,u,rfl,hk,hv,hu,q⟩:=h
 refine ⟨_,(z_f (x_a (pt_truth0 (z_p (call_isin2 (K:=K) rfl (S := "tuple") (T := "list")) rfl T.isinstance PyProof.Rows.boot_isinstance (z_a (pv 1) (z_a (y_d (z_a (x_t (v:=.ty "tuple") rfl T.tuple PyProof.Rows.boot_tuple rfl) (z_a (x_t (v:=.ty "list") rfl T.list PyProof.Rows.boot_list rfl) z_d))) z_d))) (fun _=>rfl)) (z_f (x_a (PW.pt (pw_or (pt_not (pt_truth0 (z_p (call_isin2 (K:=K) rfl (S := "tuple") (T := "list")) rfl T.isinstance PyProof.Rows.boot_isinstance (z_a (pv 0) (z_a (y_d (z_a (x_t (v:=.ty "tuple") rfl T.tuple PyProof.Rows.boot_tuple rfl) (z_a (x_t (v:=.ty "list") rfl T.list PyProof.Rows.boot_list rfl) z_d))) z_d))) (fun _=>rfl))) (pw_or1 (z_s op_ne (z_p (y_s (T := "list")) rfl T.isinstance PyProof.Rows.boot_isinstance (z_a (pv 0) (z_a (x_t (v:=.ty "list") rfl T.list PyProof.Rows.boot_list rfl) z_d))) (z_p (y_s (T := "list")) rfl T.isinstance PyProof.Rows.boot_isinstance (z_a (pv 1) (z_a (x_t (v:=.ty "list") rfl T.list PyProof.Rows.boot_list rfl) z_d))) (nomark _))))) (z_i (z_z pe_bl)) y_a)
  (z_i (z_z (pe_and (pe_cmpR op_eq (z_p y_f rfl T.len PySem.boot_len (z_a (pv 0) z_d)) (z_p y_f rfl T.len PySem.boot_len (z_a (pv 1) z_d)) (nomark _)) (pe_one (z_p call_all0 rfl T.all PyProof.Rows.boot_all (z_a (pe_compG ["_law_one", "_law_other"] [] (fun _ _ h=>h) rfl (pi_or (pi_zip rfl T.zip (z_a (pv 0) (z_a (pv 1) z_d))) (pi_zipt rfl T.zip (z_a (pv 0) (z_a (pv 1) z_d)))) (fun _ _ _ _=>(pg_tup0 rfl (y_e (z_v (i:=0) (show (["_law_one", "_law_other"]:List Str).Nodup by decide +kernel) rfl (Or.inl rfl)) (y_e (z_v (i:=1) (show (["_law_one", "_law_other"]:List Str).Nodup by decide +kernel) rfl (Or.inl rfl)) pgs_nil)))) shp_tup2 (fun _ _ _ _=>y_n) (fun _ _ _ _=>(z_k G_L_same (hr.mono (by first | decide | lia)) rfl T.M_L_same T.F_L_same.kp T.B_L_same .nil pass0 (z_a (pv 0) (z_a (pv 1) z_d)))) rfl (show ∀ j∈([]:List Nat),j<2 by decide)) z_d))))))) y_a)
  (z_f (x_a (pt_truth0 (z_p (y_s (T := "str")) rfl T.isinstance PyProof.Rows.boot_isinstance (z_a (pv 1) (z_a (x_t (v:=.ty "str") rfl T.str PyProof.Rows.boot_str rfl) z_d))) (fun _=>rfl)) (z_i (z_z (pe_and (z_p (y_s (T := "str")) rfl T.isinstance PyProof.Rows.boot_isinstance (z_a (pv 0) (z_a (x_t (v:=.ty "str") rfl T.str PyProof.Rows.boot_str rfl) z_d))) (pe_one (pe_cmpR op_eq (pv 0) (pv 1) (nomark _)))))) y_a)
  (z_i (z_z (pe_and (z_p (y_s (T := "int")) rfl T.isinstance PyProof.Rows.boot_isinstance (z_a (pv 0) (z_a (x_t (v:=.ty "int") rfl T.int PyProof.Rows.boot_int rfl) z_d))) (pe_and (pe_not (z_p (y_s (T := "bool")) rfl T.isinstance PyProof.Rows.boot_isinstance (z_a (pv 0) (z_a (x_t (v:=.ty "bool") rfl T.bool PyProof.Rows.boot_bool rfl) z_d)))) (pe_one (pe_cmpR op_eq (pv 0) (pv 1) (nomark _))))))))),?_⟩
 rcases hk with ⟨i,rfl⟩ | ⟨x,rfl,hx⟩ | ⟨ds,rfl,hl,he⟩ | ⟨ds,rfl,hl,he⟩
 ·have f1:=hv.intI
  have f2:=hu.intI
  subst f1 f2
  refine ⟨_,rfl,(by show 2<=sizeLine;decide),fun p1 hp1=>?_⟩
  refine ⟨_,p1,_,false,rfl,z_b,TyOf.int _,rfl,_,rfl,?_⟩
  have t1:=z_c hp1 (.tup [.ty "tuple",.ty "list"])
  generalize upd H p1 (.tup [.ty "tuple",.ty "list"])=H1 at t1 ⊢
  refine iteF ?_
  refine ⟨_,rfl,_,_,false,rfl,TyOf.int _,rfl,_,rfl,?_⟩
  refine iteF ?_
  refine ⟨_,rfl,_,_,true,rfl,TyOf.int i,rfl,_,rfl,?_⟩
  refine iteT ?_
  refine ⟨_,rfl,_,_,false,rfl,TyOf.int i,rfl,_,rfl,_,rfl,?_⟩
  refine iteT ?_
  exact ⟨_,rfl,_,rfl,rfl,(by show Q (.bl (decide (V.int i=V.int i))) H1;rw [decide_eq_true rfl];exact q H1 t1)⟩
 ·have f1:v = .str x:=by unfold Dat at hv;exact hv
  have f2:u = .str x:=by unfold Dat at hu;exact hu
  subst f1 f2
  refine ⟨_,rfl,(by show 2<=sizeLine;decide),fun p1 hp1=>?_⟩
  refine ⟨_,p1,_,false,rfl,z_b,TyOf.str _,rfl,_,rfl,?_⟩
  have t1:=z_c hp1 (.tup [.ty "tuple",.ty "list"])
  generalize upd H p1 (.tup [.ty "tuple",.ty "list"])=H1 at t1 ⊢
  refine iteF ?_
  refine ⟨_,rfl,_,_,true,rfl,TyOf.str _,rfl,_,rfl,?_⟩
  refine iteT ?_
  refine ⟨_,rfl,_,_,true,rfl,TyOf.str x,rfl,_,rfl,?_⟩
  refine iteT ?_
  exact ⟨_,rfl,_,rfl,rfl,(by show Q (.bl (decide (V.str x=V.str x))) H1;rw [decide_eq_true rfl];exact q H1 t1)⟩
 ·obtain ⟨p,xs,rfl,hp,hX⟩:=hv.tupI
  obtain ⟨r,ys,rfl,hr,hY⟩:=hu.tupI
  have l1:=hX.length
  have l2:=hY.length
  have lP:xs.length=ys.length:=by lia
  refine ⟨_,rfl,(by show 2<=sizeLine;decide),fun p1 hp1=>?_⟩
  have t1:=z_c hp1 (.tup [.ty "tuple",.ty "list"])
  have e1:=z_b (H:=H) (a:=p1) (o:=.tup [.ty "tuple",.ty "list"])
  generalize upd H p1 (.tup [.ty "tuple",.ty "list"])=H1 at t1 e1 ⊢
  refine ⟨_,p1,_,true,rfl,e1,TyOf.tup (t1 _ _ hr),rfl,_,rfl,?_⟩
  refine iteT ?_
  refine ⟨_,rfl,(by show 2<=sizeLine;decide),fun p2 hp2=>?_⟩
  have t2:=t1.trans (z_c hp2 (.tup [.ty "tuple",.ty "list"]))
  have e2:=z_b (H:=H1) (a:=p2) (o:=.tup [.ty "tuple",.ty "list"])
  generalize upd H1 p2 (.tup [.ty "tuple",.ty "list"])=H2 at t2 e2 ⊢
  refine ⟨_,p2,_,true,rfl,e2,TyOf.tup (t2 _ _ hp),rfl,_,rfl,?_⟩
  refine iteF ?_
  have hp2':=t2 _ _ hp
  have hr2':=t2 _ _ hr
  refine ⟨_,rfl,_,_,false,rfl,TyOf.tup hp2',rfl,_,rfl,_,_,false,rfl,TyOf.tup hr2',rfl,rfl,_,rfl,?_⟩
  refine iteF ?_
  refine ⟨_,rfl,_,_,rfl,.inr ⟨_,SqT.of hp2',rfl⟩,_,rfl,_,_,rfl,.inr ⟨_,SqT.of hr2',rfl⟩,rfl,_,rfl,?_⟩
  refine ite_t (decide_eq_true (by rw [lP])) ?_
  refine .inr ⟨_,rfl,_,rfl,p,r,rfl,⟨_,SqT.of hp2'⟩,⟨_,SqT.of hr2'⟩,comp_zipt (xs:=xs) (us:=ys) (fun i zs H'=>Same H2 H'/\zs=(List.replicate i true).map V.bl) ⟨Same.refl _,rfl⟩ ?_ lP ?_ ?_ ?_⟩
  ·rintro j zs H' _ ⟨s',_⟩
   exact ⟨SqT.of (s' _ _ hp2'),SqT.of (s' _ _ hr2')⟩
  ·rintro j zs H' hj ⟨_,rfl⟩
   rw [List.length_map,List.length_replicate]
   exact y_b (by lia)
  ·rintro j x y pp zs H' os hos hx hy ⟨s',rfl⟩ hpp
   obtain ⟨o1,o2,rfl⟩:=two_ad hos
   obtain ⟨dx,hdx,hxd⟩:=hX.get hx
   obtain ⟨dy,hdy,hyd⟩:=hY.get hy
   rw [hdx] at hdy
   cases hdy
   have u1:=z_c hpp (.tup [x,y])
   refine ⟨pp,_,rfl,SqT.of z_b,rfl,_,_,rfl,_,_,rfl,rfl,?_⟩
   generalize upd H' pp (.tup [x,y])=H3 at u1 ⊢
   have T3:=t2.trans (s'.trans u1)
   unfold tYes
   refine iteT ⟨_,rfl,_,rfl,dx,x,y,rfl,he dx (List.mem_of_getElem? hdx),hxd.same T3,hyd.same T3,fun H4 s4=>?_⟩
   refine ⟨s'.trans (u1.trans s4),?_⟩
   rw [List.replicate_succ',List.map_append]
   rfl
  rintro zs H' ⟨s',rfl⟩ pl hpl
  refine ⟨rfl,pl,_,rfl,SqL.of z_b,?_⟩
  have eall:(List.replicate xs.length true).all id=true:=by simp
  rw [eall]
  exact q _ (t2.trans (s'.trans (z_c hpl _)))
 ·obtain ⟨p,xs,rfl,hp,hX⟩:=hv.lstI
  obtain ⟨r,ys,rfl,hr,hY⟩:=hu.lstI
  have l1:=hX.length
  have l2:=hY.length
  have lP:xs.length=ys.length:=by lia
  refine ⟨_,rfl,(by show 2<=sizeLine;decide),fun p1 hp1=>?_⟩
  have t1:=z_c hp1 (.tup [.ty "tuple",.ty "list"])
  have e1:=z_b (H:=H) (a:=p1) (o:=.tup [.ty "tuple",.ty "list"])
  generalize upd H p1 (.tup [.ty "tuple",.ty "list"])=H1 at t1 e1 ⊢
  refine ⟨_,p1,_,true,rfl,e1,TyOf.lst (t1 _ _ hr),rfl,_,rfl,?_⟩
  refine iteT ?_
  refine ⟨_,rfl,(by show 2<=sizeLine;decide),fun p2 hp2=>?_⟩
  have t2:=t1.trans (z_c hp2 (.tup [.ty "tuple",.ty "list"]))
  have e2:=z_b (H:=H1) (a:=p2) (o:=.tup [.ty "tuple",.ty "list"])
  generalize upd H1 p2 (.tup [.ty "tuple",.ty "list"])=H2 at t2 e2 ⊢
  refine ⟨_,p2,_,true,rfl,e2,TyOf.lst (t2 _ _ hp),rfl,_,rfl,?_⟩
  refine iteF ?_
  have hp2':=t2 _ _ hp
  have hr2':=t2 _ _ hr
  refine ⟨_,rfl,_,_,true,rfl,TyOf.lst hp2',rfl,_,rfl,_,_,true,rfl,TyOf.lst hr2',rfl,rfl,_,rfl,?_⟩
  refine iteF ?_
  refine ⟨_,rfl,_,_,rfl,.inl ⟨_,SqL.of hp2',rfl⟩,_,rfl,_,_,rfl,.inl ⟨_,SqL.of hr2',rfl⟩,rfl,_,rfl,?_⟩
  refine ite_t (decide_eq_true (by rw [lP])) ?_
  refine .inl ⟨_,rfl,_,rfl,p,r,rfl,⟨_,SqL.of hp2'⟩,⟨_,SqL.of hr2'⟩,comp_zip (xs:=xs) (us:=ys) (fun i zs H'=>Same H2 H'/\zs=(List.replicate i true).map V.bl) ⟨Same.refl _,rfl⟩ ?_ lP ?_ ?_ ?_⟩
  ·rintro j zs H' _ ⟨s',_⟩
   exact ⟨SqL.of (s' _ _ hp2'),SqL.of (s' _ _ hr2')⟩
  ·rintro j zs H' hj ⟨_,rfl⟩
   rw [List.length_map,List.length_replicate]
   exact y_b (by lia)
  ·rintro j x y pp zs H' os hos hx hy ⟨s',rfl⟩ hpp
   obtain ⟨o1,o2,rfl⟩:=two_ad hos
   obtain ⟨dx,hdx,hxd⟩:=hX.get hx
   obtain ⟨dy,hdy,hyd⟩:=hY.get hy
   rw [hdx] at hdy
   cases hdy
   have u1:=z_c hpp (.tup [x,y])
   refine ⟨pp,_,rfl,SqT.of z_b,rfl,_,_,rfl,_,_,rfl,rfl,?_⟩
   generalize upd H' pp (.tup [x,y])=H3 at u1 ⊢
   have T3:=t2.trans (s'.trans u1)
   unfold tYes
   refine iteT ⟨_,rfl,_,rfl,dx,x,y,rfl,he dx (List.mem_of_getElem? hdx),hxd.same T3,hyd.same T3,fun H4 s4=>?_⟩
   refine ⟨s'.trans (u1.trans s4),?_⟩
   rw [List.replicate_succ',List.map_append]
   rfl
  rintro zs H' ⟨s',rfl⟩ pl hpl
  refine ⟨rfl,pl,_,rfl,SqL.of z_b,?_⟩
  have eall:(List.replicate xs.length true).all id=true:=by simp
  rw [eall]
  exact q _ (t2.trans (s'.trans (z_c hpl _)))
theorem ok_L_copies(T:Tx w K mg A):FnOk P w K mg base CX0 1 A.a_L_copies A.d_L_copies ["_law_row", "_law_head"] sp_fronts:=by
 refine T.F_L_copies.ok sc_L_copies (fun vs H Q E h=>?_) (fun cdv A' outer s H vs Q E hr h=>?_)
 ·obtain ⟨v,a,c,lb,nm,ss,os,rfl,hD,ha,hl,hc,q⟩:=h
  rfl
 obtain ⟨v,a,c,lb,nm,ss,os,rfl,hD,ha,hl,hc,q⟩:=h
 refine ⟨_,(z_f (x_a (z_s op_eq (z_l z_n (pv 0) z_e (fun _ _=>rfl)) z_t (nomark _)) (z_i (z_z (y_h (z_a (z_o z_w (z_o z_w (pv 1) (z_l z_n (pv 0) z_e (fun _ _=>rfl))) z_t) z_d)))) y_a)
  (z_i (z_z (pe_comp [1,0] (fun _ _ h=>h) rfl (y_o rfl T.range (z_a (z_l z_n (pv 0) z_e (fun _ _=>rfl)) z_d)) (fun _ _ _ _=>y_n) (fun _ _ _ _=>(z_o z_w (z_o z_w (z_o z_w (z_o z_w (pv 1) (z_l z_n (pv 2) z_e (fun _ _=>rfl))) z_t) (z_l ix_str z_t (pv 0) (fun _ _=>rfl))) z_t)) rfl (show ∀ j∈([1,0]:List Nat),j<2 by decide) (show (["_law_k", "_law_head", "_law_row"]:List Str).Nodup by decide +kernel))))),?_⟩
 obtain ⟨r,xs,rfl,hr',x0,x1,x2⟩:=use_at2 hD
 refine ⟨_,rfl,r,_,_,_,rfl,rfl,SqT.of hr',x0,rfl,_,rfl,?_⟩
 cases c with
 | none =>
  refine ite_t (by decide) ?_
  exact ⟨_,rfl,_,rfl,r,_,_,_,rfl,rfl,SqT.of hr',x1 rfl,_,_,rfl,rfl,small (by lia),_,_,rfl,rfl,small (by rw [Str.length_append];show _+_+1<=_;lia),(by show 1<=sizeLine;decide),fun p hp=>q p _ hp (z_c hp _) z_b⟩
 | some n =>
  refine ite_f (show decide (V.str "times" = V.str "part")=false by decide) ?_
  have hn8:=hc n rfl
  obtain ⟨y1,y2⟩:=x2 n rfl
  refine ⟨_,rfl,r,_,_,_,rfl,rfl,SqT.of hr',y1,_,rfl,by lia,by lia,?_⟩
  refine comp_range_map (fun k=>.str (a++lb ++ "." ++ digT k ++ ".")) (by lia) (fun k hk N hN=>?_) fun p hp=>?_
  ·have h2:=dig_len k (by lia)
   rw [Int.zero_add]
   refine ⟨_,rfl,_,rfl,r,_,_,_,rfl,rfl,SqT.of hr',y2,_,_,rfl,rfl,small (by lia),_,_,rfl,rfl,small ?_,_,rfl,?_⟩
   ·rw [Str.length_append];show _+_+1<=_;lia
   refine ⟨_,_,("01234567" : Str).cps.toList.getD k 0,rfl,rfl,(by decide),y_c (dig_at k (by lia)),?_⟩
   have e:(⟨#[("01234567" : Str).cps.toList.getD k 0]⟩:Str)=digT k:=digC_eq k (by lia)
   rw [e]
   refine ⟨_,_,rfl,rfl,small ?_,_,_,rfl,rfl,small ?_,hN⟩
   ·rw [h2,Str.length_append,Str.length_append]
    show _+_+1+1<=_
    lia
   ·rw [Str.length_append,h2,Str.length_append,Str.length_append]
    show _+_+1+1+1<=_
    lia
  ·refine q p _ hp (z_c hp _) ?_
   rw [z_b]
   show _=some (HO.lst (((List.range n).map fun k=>a++lb ++ "." ++ digT k ++ ".").map V.str))
   rw [List.map_map]
   rfl
theorem ok_L_spread(T:Tx w K mg A)(G_L_headed:FnOk P w K mg base CX0 8 A.a_L_headed A.d_L_headed ["_law_thing", "_law_head"] (sp_headed 5))(G_L_copies:FnOk P w K mg base CX0 1 A.a_L_copies A.d_L_copies ["_law_row", "_law_head"] sp_fronts)(n:Nat)(G_L_spread:FnOk P w K mg base CX0 (n+10) A.a_L_spread A.d_L_spread ["_law_plan_here", "_law_part_here", "_law_head"] (sp_Lspr n)):FnOk P w K mg base CX0 (n+11) A.a_L_spread A.d_L_spread ["_law_plan_here", "_law_part_here", "_law_head"] (sp_Lspr (n+1)):=by
 refine T.F_L_spread.ok sc_L_spread (fun vs H Q E h=>?_) (fun cdv A' outer s H vs Q E hr h=>?_)
 ·obtain ⟨pl,vs',Ps,P',v,a,rfl,hpl,hPs,hlen,hD,hOk,hGA,hG1,hLen,q⟩:=h
  rfl
 obtain ⟨pl,vs',Ps,P',v,a,rfl,hpl,hPs,hlen,hD,hOk,hGA,hG1,hLen,q⟩:=h
 refine ⟨_,(z_f (z_r (i:=3) sc_L_spread.nd rfl (Or.inl rfl) (y_h z_d))
  (z_f (x_e PassesOwn.never rfl (pi_tup0 (z_l z_n (pv 1) z_e (fun _ _=>rfl))) (z_v (i:=4) sc_L_spread.nd rfl (Or.inr rfl))
    (z_f (x_a (PW.pt (pw_or (z_s op_eq (z_l z_n (pv 4) z_e (fun _ _=>rfl)) z_t (nomark _)) (pw_or1 (z_s op_eq (z_l z_n (pv 4) z_e (fun _ _=>rfl)) z_t (nomark _))))) (z_f (x_b (pe_bmN PySem.F.plainAttrs_list PySem.F.slot_list_append PySem.F.type_list_append y_u (pv 3) (z_a (z_o op_catE (z_o op_catE (y_d (z_a (z_l z_n (pv 4) z_e (fun _ _=>rfl)) (z_a (z_o z_w (pv 2) (z_l z_n (pv 4) z_e (fun _ _=>rfl))) z_d))) (pe_slice sl_tupE (pv 4) (po_some z_e) (po_some (pe_un un_neg z_e)))) (y_d (z_a (z_k G_L_headed (hr.mono (by first | decide | lia)) rfl T.M_L_headed T.F_L_headed.kp T.B_L_headed .nil pass0 (z_a (z_l z_n (pv 4) (pe_un un_neg z_e) (fun _ _=>rfl)) (z_a (pv 2) z_d))) z_d))) z_d)))
  (z_i ps_continue)) y_a)
  (z_f (z_r (i:=5) sc_L_spread.nd rfl (Or.inl rfl) (z_l z_x (pe_comp1 [4] (fun _ _ h=>h) rfl (pi_list0 (pv 0)) (fun _ _ _ _=>(z_s op_eq (z_l z_n (pv 0) z_e (fun _ _=>rfl)) (z_l z_n (pv 1) (pe_un un_neg z_e) (fun _ _=>rfl)) (nomark _))) (fun _ _ _ _=>(pv 0)) rfl (show ∀ j∈([4]:List Nat),j<9 by decide) (show (["_law_one", "_law_row"]:List Str).Nodup by decide +kernel)) z_e (fun _ _=>rfl)))
  (z_f (ps_comp [2] sc_L_spread.nd (i:=6) rfl (Or.inl rfl) (fun _ _ h=>h) rfl (pi_tup0 (z_l z_n (pv 4) (pe_un un_neg z_e) (fun _ _=>rfl))) (fun _ _ _ _=>y_n) (fun _ _ _ _=>(z_k G_L_headed (hr.mono (by first | decide | lia)) rfl T.M_L_headed T.F_L_headed.kp T.B_L_headed .nil pass0 (z_a (pv 0) (z_a (pv 1) z_d)))) rfl (show ∀ j∈([2]:List Nat),j<9 by decide) (show (["_law_saying", "_law_head"]:List Str).Nodup by decide +kernel) (by with_unfolding_all rfl))
  (z_f (x_e PassesOwn.never rfl (pi_list0 (z_k G_L_copies (hr.mono (by first | decide | lia)) rfl T.M_L_copies T.F_L_copies.kp T.B_L_copies .nil pass0 (z_a (pv 4) (z_a (pv 2) z_d)))) (z_v (i:=7) sc_L_spread.nd rfl (Or.inr rfl))
    (z_f (x_e PassesOwn.never rfl (y_o rfl T.range (z_a (z_p y_f rfl T.len PySem.boot_len (z_a (pv 6) z_d)) z_d)) (z_v (i:=8) sc_L_spread.nd rfl (Or.inl rfl))
    (z_i (x_b (pe_bmN PySem.F.plainAttrs_list PySem.F.slot_list_append PySem.F.type_list_append y_u (pv 3) (z_a (y_d (z_a z_t (z_a (z_o z_w (pv 7) (z_l z_n (z_l z_n (z_l z_n (pv 5) z_e (fun _ _=>rfl)) (pv 8) (fun _ _=>rfl)) z_e (fun _ _=>rfl))) (z_a (z_l z_n (z_l z_n (z_l z_n (pv 5) z_e (fun _ _=>rfl)) (pv 8) (fun _ _=>rfl)) z_e (fun _ _=>rfl)) (z_a (z_l z_x (pv 6) (pv 8) (fun _ _=>rfl)) z_d))))) z_d)))))
  (z_f (z_r (i:=3) sc_L_spread.nd rfl (Or.inl rfl) (z_o op_cat (pv 3) (z_k G_L_spread (hr.mono (by first | decide | lia)) rfl T.M_L_spread T.F_L_spread.kp T.B_L_spread .nil pass0 (z_a (pv 0) (z_a (pv 5) (z_a (pv 7) z_d))))))
  (z_i (ps_compG ["_law_name", "_law_width"] [7] sc_L_spread.nd (i:=6) rfl (Or.inl rfl) (fun _ _ h=>h) rfl (pi_tup0 (z_l z_n (pv 5) z_e (fun _ _=>rfl))) (fun _ _ _ _=>(pg_tup0 rfl (y_e (z_v (i:=0) (show (["_law_name", "_law_width", "_law_more"]:List Str).Nodup by decide +kernel) rfl (Or.inl rfl)) (y_e (z_v (i:=1) (show (["_law_name", "_law_width", "_law_more"]:List Str).Nodup by decide +kernel) rfl (Or.inl rfl)) pgs_nil)))) shp_tup2 (fun _ _ _ _=>y_n) (fun _ _ _ _=>(y_d (z_a z_t (z_a (z_o z_w (pv 2) (pv 0)) z_d)))) rfl (show ∀ j∈([7]:List Nat),j<9 by decide) (by with_unfolding_all rfl))))))
  (z_i (x_e PassesOwn.never rfl (y_o rfl T.range (z_a (z_p y_f rfl T.len PySem.boot_len (z_a (pv 6) z_d)) z_d)) (z_v (i:=8) sc_L_spread.nd rfl (Or.inl rfl))
    (z_i (x_b (pe_bmN PySem.F.plainAttrs_list PySem.F.slot_list_append PySem.F.type_list_append y_u (pv 3) (z_a (y_d (z_a z_t (z_a (z_o z_w (pv 2) (z_l z_n (z_l z_n (pv 4) (pe_un un_neg z_e) (fun _ _=>rfl)) (pv 8) (fun _ _=>rfl))) (z_a (z_l z_n (z_l z_n (z_l z_n (pv 5) z_e (fun _ _=>rfl)) (pv 8) (fun _ _=>rfl)) z_e (fun _ _=>rfl)) (z_a (z_l z_x (pv 6) (pv 8) (fun _ _=>rfl)) z_d))))) z_d)))))))))))
  (z_i (z_z (pv 3))))),?_⟩
 obtain ⟨r,pd,po,pr,ds,os,rs,rfl,h1,h2,h3,h4,d1,d2,d3⟩:=x_c hD
 have hOk0:=hOk
 obtain ⟨hL,_,_,_,_,hrl,hrows⟩:=hOk
 have l3:=d3.length
 rw [List.length_map] at l3
 have lvs:=hPs.length
 rw [List.length_map] at lvs
 have nL:=rows_noL (a:=a) hOk0
 have nLt:∀ (i:Nat),∀ r∈(P'.rows.take i).flatMap (rowF (lkL Ps) (rowsF (lkL Ps) n) a),noL r.dat=true:=fun i r hr=>nL r (by
  obtain ⟨s,hs,hr⟩:=List.mem_flatMap.mp hr
  exact List.mem_flatMap.mpr ⟨s,List.mem_of_mem_take hs,hr⟩)
 have fl:∀ i,((P'.rows.take i).flatMap (rowF (lkL Ps) (rowsF (lkL Ps) n) a)).length<=10000:=fun i=>Nat.le_trans (flat_le _ _ i) hLen
 refine ⟨(by show 0<=sizeLine;decide),fun p0 hp0=>?_⟩
 have s1:=z_c hp0 (.lst [])
 refine ⟨_,rfl,r,_,_,_,rfl,rfl,SqT.of (s1 _ _ h1),rfl,pr,rfl,⟨_,SqT.of (s1 _ _ h4)⟩,for_tup (xs:=rs) (fun i σ H'=>∃ (x4 x5 x6 x7 x8:Option V) (p:Addr) (zs:List V),σ=[some (.ref pl),some (.ref r),some (.str a),some (.ref p),x4,x5,x6,x7,x8]/\Same H H'/\H p=none/\H' p=some (.lst zs)/\Dats H' (((P'.rows.take i).flatMap (rowF (lkL Ps) (rowsF (lkL Ps) n) a)).map Rw.dat) zs) ⟨_,_,_,_,_,p0,[],rfl,s1,hp0,z_b,.nil⟩ ?_ ?_ ?_⟩
 ·rintro i σ H' _ ⟨_,_,_,_,_,_,_,rfl,s',_⟩
  exact SqT.of (s' _ _ h4)
 ·rintro i v σ H' hv ⟨x4,x5,x6,x7,x8,p,zs,rfl,s',hp,fp,hzd⟩
  obtain ⟨dr,hdr,hvd⟩:=d3.get hv
  rw [List.getElem?_map] at hdr
  obtain ⟨rw_,hrw,rfl⟩:=Option.map_eq_some_iff.mp hdr
  have hR:=hrows rw_ (List.mem_of_getElem? hrw)
  have hG:=hG1 rw_ (List.mem_of_getElem? hrw)
  have hzl:=hzd.length
  rw [List.length_map] at hzl
  have fli:=fl i
  have fli1:=fl (i+1)
  rw [x_n hrw,List.length_append] at fli1
  cases rw_ with
  | wire x w0 s =>
   obtain ⟨hx,_⟩:=hR
   have hsd:SayD 5 s:=hG
   obtain ⟨rr,sv,rfl,er,hsv⟩:=wire_at (hvd.same s')
   refine ⟨_,rfl,rr,_,_,_,rfl,rfl,SqT.of er,rfl,rfl,_,rfl,ite_t (by decide) (iteT ?_)⟩
   refine ⟨_,rfl,.inl ⟨rfl,_,SqL.of fp⟩,_,rfl,rr,_,_,_,rfl,rfl,SqT.of er,rfl,_,rfl,_,rfl,rr,_,_,_,rfl,rfl,SqT.of er,rfl,_,_,rfl,rfl,small (by lia),(by show 2<=sizeLine;decide),fun pa hpa=>?_⟩
   have t1:=z_c hpa (.tup [.str "wire",.str (a++x)])
   have g1:=z_b (H:=H') (a:=pa) (o:=.tup [.str "wire",.str (a++x)])
   generalize upd H' pa (.tup [.str "wire",.str (a++x)])=J1 at t1 g1 ⊢
   refine ⟨_,rfl,_,rfl,_,rfl,_,rfl,rr,_,rfl,t1 _ _ er,fun pb J2 t2 g2=>?_⟩
   have e2:cutV [V.str "wire",V.str x,V.int w0,sv] (some 2) (some (-1))=[V.int w0]:=rfl
   rw [e2] at g2
   refine ⟨pa,pb,_,_,rfl,rfl,t2 _ _ g1,g2,(by show 2+1<=sizeLine;decide),fun pc J3 t3 g3=>?_⟩
   have t13:=t1.trans (t2.trans t3)
   refine ⟨_,rfl,_,rfl,rr,_,_,_,rfl,rfl,SqT.of (t13 _ _ er),rfl,_,rfl,s,sv,a,rfl,hsd,hsv.same t13,by lia,fun v' J4 t4 hv'=>?_⟩
   refine ⟨(by show 1<=sizeLine;decide),fun pe hpe=>?_⟩
   have t5:=z_c hpe (.tup [v'])
   refine ⟨pc,pe,_,_,rfl,rfl,(t4.trans t5) _ _ g3,z_b,(by show 2+1+1<=sizeLine;decide),fun pf J6 t6 g6=>?_⟩
   have T6:=t13.trans (t4.trans (t5.trans t6))
   have hv6:=hv'.same (t5.trans t6)
   have fp6:=T6 _ _ fp
   refine ⟨p,_,_,rfl,rfl,fp6,y_b (by lia),?_⟩
   have keep:KeepT J6 (upd J6 p (.lst (zs++[.ref pf]))):=KeepT.lst fp6 _
   have eR:rowF (lkL Ps) (rowsF (lkL Ps) n) a (.wire x w0 s)=[Rw.wire (a++x) w0 (renF a 5 s)]:=by
    show [Rw.wire (a++x) w0 (renF a 6 s)]=_
    rw [renF_up hsd (show 5<=6 by decide)]
   refine ⟨_,_,_,_,_,p,zs++[.ref pf],rfl,x_u (s'.trans T6) hp _,hp,z_b,?_⟩
   rw [x_n hrw,List.map_append,eR]
   refine Dats.append (Dats.keepT keep (z_u fun d hd=>?_) (hzd.same T6)) (.cons (Dat.keepT keep (x_o (noL_ren hsd)) (Dat.tup g6 (.cons (Dat.str _) (.cons (Dat.str _) (.cons (Dat.int _) (.cons hv6 .nil)))))) .nil)
   obtain ⟨k',hk',rfl⟩:=List.mem_map.mp hd
   exact nLt i k' hk'
  | box x w0 f0 s =>
   obtain ⟨hx,_⟩:=hR
   have hsd:SayD 5 s:=hG
   obtain ⟨rr,sv,rfl,er,hsv⟩:=box_at (hvd.same s')
   refine ⟨_,rfl,rr,_,_,_,rfl,rfl,SqT.of er,rfl,rfl,_,rfl,ite_f (by decide) ?_⟩
   refine ⟨_,rfl,rr,_,_,_,rfl,rfl,SqT.of er,rfl,rfl,_,rfl,iteT ?_⟩
   refine ⟨_,rfl,.inl ⟨rfl,_,SqL.of fp⟩,_,rfl,rr,_,_,_,rfl,rfl,SqT.of er,rfl,_,rfl,_,rfl,rr,_,_,_,rfl,rfl,SqT.of er,rfl,_,_,rfl,rfl,small (by lia),(by show 2<=sizeLine;decide),fun pa hpa=>?_⟩
   have t1:=z_c hpa (.tup [.str "box",.str (a++x)])
   have g1:=z_b (H:=H') (a:=pa) (o:=.tup [.str "box",.str (a++x)])
   generalize upd H' pa (.tup [.str "box",.str (a++x)])=J1 at t1 g1 ⊢
   refine ⟨_,rfl,_,rfl,_,rfl,_,rfl,rr,_,rfl,t1 _ _ er,fun pb J2 t2 g2=>?_⟩
   have e2:cutV [V.str "box",V.str x,V.int w0,V.int f0,sv] (some 2) (some (-1))=[V.int w0,V.int f0]:=rfl
   rw [e2] at g2
   refine ⟨pa,pb,_,_,rfl,rfl,t2 _ _ g1,g2,(by show 2+2<=sizeLine;decide),fun pc J3 t3 g3=>?_⟩
   have t13:=t1.trans (t2.trans t3)
   refine ⟨_,rfl,_,rfl,rr,_,_,_,rfl,rfl,SqT.of (t13 _ _ er),rfl,_,rfl,s,sv,a,rfl,hsd,hsv.same t13,by lia,fun v' J4 t4 hv'=>?_⟩
   refine ⟨(by show 1<=sizeLine;decide),fun pe hpe=>?_⟩
   have t5:=z_c hpe (.tup [v'])
   refine ⟨pc,pe,_,_,rfl,rfl,(t4.trans t5) _ _ g3,z_b,(by show 2+2+1<=sizeLine;decide),fun pf J6 t6 g6=>?_⟩
   have T6:=t13.trans (t4.trans (t5.trans t6))
   have hv6:=hv'.same (t5.trans t6)
   have fp6:=T6 _ _ fp
   refine ⟨p,_,_,rfl,rfl,fp6,y_b (by lia),?_⟩
   have keep:KeepT J6 (upd J6 p (.lst (zs++[.ref pf]))):=KeepT.lst fp6 _
   have eR:rowF (lkL Ps) (rowsF (lkL Ps) n) a (.box x w0 f0 s)=[Rw.box (a++x) w0 f0 (renF a 5 s)]:=by
    show [Rw.box (a++x) w0 f0 (renF a 6 s)]=_
    rw [renF_up hsd (show 5<=6 by decide)]
   refine ⟨_,_,_,_,_,p,zs++[.ref pf],rfl,x_u (s'.trans T6) hp _,hp,z_b,?_⟩
   rw [x_n hrw,List.map_append,eR]
   refine Dats.append (Dats.keepT keep (z_u fun d hd=>?_) (hzd.same T6)) (.cons (Dat.keepT keep (noL_box (noL_ren hsd)) (Dat.tup g6 (.cons (Dat.str _) (.cons (Dat.str _) (.cons (Dat.int _) (.cons (Dat.int _) (.cons hv6 .nil))))))) .nil)
   obtain ⟨k',hk',rfl⟩:=List.mem_map.mp hd
   exact nLt i k' hk'
  | use c lb nm ss os =>
   obtain ⟨rr,xs0,ps,po',sv,rfl,er0,y0,_,y3,y2,y1,_,hps0,hpo0,hsv0⟩:=use_at hvd
   have er:=s' _ _ er0
   obtain ⟨⟨qt,hqt⟩,hs5⟩:(∃ q,lkL Ps nm=some q)/\∀ s∈ss,SayD 5 s:=hG
   obtain ⟨hlb,_,hos,hc8,hq⟩:=hR
   obtain ⟨e1,e2,hcq,hPOk⟩:=hq qt hqt
   refine ⟨_,rfl,rr,_,_,_,rfl,rfl,SqT.of er,y0,rfl,_,rfl,ite_f (wd_ne1 c) ?_⟩
   refine ⟨_,rfl,rr,_,_,_,rfl,rfl,SqT.of er,y0,rfl,_,rfl,ite_f (wd_ne2 c) ?_⟩
   refine ⟨_,rfl,pl,rfl,⟨_,SqL.of (s' _ _ hpl)⟩,comp_list (xs:=vs') (fun j ys J=>H'=J/\∃ ws:List (Pt×V),ys=ws.map Prod.snd/\(∀ w∈ws,Dat H w.1.dat w.2)/\ws.map Prod.fst=(Ps.take j).filter fun q=>decide (q.nm=nm)) ⟨rfl,[],rfl,(fun _ h=>nomatch h),rfl⟩ ?_ ?_ ?_ ?_⟩
   ·rintro j ys J _ ⟨rfl,_⟩
    exact SqL.of (s' _ _ hpl)
   ·rintro j ys J hj ⟨rfl,ws,rfl,_,hf⟩
    have h1:=congrArg List.length hf
    have h2:=List.length_filter_le (fun q:Pt=>decide (q.nm=nm)) (Ps.take j)
    rw [List.length_map] at h1
    rw [List.length_take] at h2
    rw [List.length_map]
    exact y_b (by lia)
   ·rintro j u ys J hu ⟨rfl,ws,rfl,hw,hf⟩
    obtain ⟨dq,hdq,hud⟩:=hPs.get hu
    rw [List.getElem?_map] at hdq
    obtain ⟨q0,hq0,rfl⟩:=Option.map_eq_some_iff.mp hdq
    obtain ⟨r0,_,_,_,_,_,_,rfl,fr0,_⟩:=x_c hud
    refine ⟨_,rfl,r0,_,_,_,rfl,rfl,SqT.of (s' _ _ fr0),rfl,_,rfl,_,rfl,rr,_,_,_,rfl,rfl,SqT.of er,y3,rfl,_,rfl,?_⟩
    rw [z_y hq0,List.filter_append]
    by_cases e:q0.nm=nm
    ·refine ite_t (decide_eq_true (by rw [e])) ⟨_,rfl,rfl,ws++[(q0,.ref r0)],by rw [List.map_append];rfl,fun w hw'=>?_,by rw [List.map_append,hf];simp [e]⟩
     rcases List.mem_append.mp hw' with h | h
     ·exact hw w h
     ·rw [List.mem_singleton.mp h]
      exact hud
    ·refine ite_f (decide_eq_false fun h=>e (by injection h)) ⟨rfl,ws,rfl,hw,by rw [hf];simp [e]⟩
   rintro ys J ⟨rfl,ws,rfl,hw,hf⟩ pc hpc
   rw [List.take_of_length_le (by lia)] at hf
   obtain ⟨vq,ws',rfl⟩:=lkL_hd hqt hf
   have hDq:Dat H qt.dat vq:=hw (qt,vq) List.mem_cons_self
   have u1:=z_c hpc (.lst (((qt,vq)::ws').map Prod.snd))
   refine ⟨pc,_,_,_,rfl,rfl,SqL.of z_b,(show atI _ ((0:Nat):Int)=_ from y_c rfl),?_⟩
   dsimp only [gName]
   generalize upd H' pc (.lst (((qt,vq)::ws').map Prod.snd))=H1 at u1 ⊢
   have S1:=s'.trans u1
   have fp1:=u1 _ _ fp
   have hzd1:=hzd.same u1
   obtain ⟨rq,qd,qo,qr,dsq,outv,rsq,rfl,k1,k2,k3,k4,dq1,dq2,dq3⟩:=x_c hDq
   have lds:=dq1.length
   have lov:=dq2.length
   have lsv:=hsv0.length
   rw [List.length_map] at lds lov
   have bnd:qt.ins.length<=100/\qt.outs.length<=100/\(∀ x∈qt.ins,x.1.length<=100)/\∀ x∈qt.outs,x.1.length<=100:=by
    cases n with
    | zero=>exact hPOk.elim
    | succ n=>exact ⟨hPOk.2.2.2.1,hPOk.2.2.2.2.1,hPOk.2.1,hPOk.2.2.1⟩
   obtain ⟨b1,b2,b3,b4⟩:=bnd
   have flen:=frnt_len (a:=a) (lb:=lb) hc8
   have fpos:=frnt_pos (a:=a) (lb:=lb) fun m e=>(hcq m e).1
   rw [x_g hqt] at fli1
   obtain ⟨sF,hsF⟩:∃ sF,sF=ss.map (renF a 6):=⟨_,rfl⟩
   have eU:rowF (lkL Ps) (rowsF (lkL Ps) n) a (.use c lb nm ss os)=useF (rowsF (lkL Ps) n) a qt c lb sF os:=by rw [hsF];exact x_g hqt
   rw [<-hsF] at fli1
   have lsF:sF.length=ss.length:=by rw [hsF,List.length_map]
   have sll:=fun (i:Nat)=>lastS_len (a:=a) (lb:=lb) (c:=c) (ss:=sF) (q:=qt) (by lia) (fun m e=>(hcq m e).2) (i:=i)
   have nS:∀ s∈sF,noL s=true:=fun s hs=>by
    rw [hsF] at hs
    obtain ⟨u,hu,rfl⟩:=List.mem_map.mp hs
    exact noL_ren ((hs5 u hu).up (by decide))
   have hPf:∀ f∈frnt a lb c,POk (lkL Ps) n qt f.length:=fun f hf=>hPOk.le (by have:=flen f hf;lia)
   unfold useF at fli1 eU
   generalize hfs:frnt a lb c=fs at fli1 eU flen fpos sll hPf
   have nR:∀ f∈fs,∀ r∈rowsF (lkL Ps) n qt f,noL r.dat=true:=fun f hf=>rows_noL (a:=f) (hPf f hf)
   have nC:∀ i,∀ r∈copF (rowsF (lkL Ps) n) qt (fs.take i) sF,noL r.dat=true:=fun i=>copF_noL nS fun f hf=>nR f (List.mem_of_mem_take hf)
   have cle:=copF_le (rowsF (lkL Ps) n) qt fs sF
   obtain ⟨R3,hR3⟩:∃ R3,R3=(os.zip (qt.outs.zip (lastS qt fs sF))).map (fun p=>Rw.wire (a++p.1) p.2.1.2 p.2.2):=⟨_,rfl⟩
   rw [<-hR3] at fli1 eU
   rw [List.length_append] at fli1
   have lsE:=lastS_end (q:=qt) (ss:=sF) fpos
   have lR3:R3.length=qt.outs.length:=by rw [hR3,List.length_map,zip_len (by rw [zip_len (by lia)];lia)];exact e2
   have n3:∀ r∈R3,noL r.dat=true:=fun r hr=>by
    rw [hR3] at hr
    obtain ⟨p,hp,rfl⟩:=List.mem_map.mp hr
    exact x_o (lastS_noL nS _ (List.of_mem_zip (List.of_mem_zip hp).2).2)
   have nCp:=nLt i
   generalize hCp:(P'.rows.take i).flatMap (rowF (lkL Ps) (rowsF (lkL Ps) n) a)=Cp at hzd hzd1 hzl fli fli1 nCp
   refine ⟨_,rfl,_,rfl,rr,_,_,_,rfl,rfl,SqT.of (u1 _ _ er),y2,ps,rfl,⟨_,SqT.of (S1 _ _ hps0)⟩,comp_tup (xs:=sv) (fun j zs J=>Same H1 J/\zs.length=j/\Dats J (sF.take j) zs) ⟨Same.refl _,rfl,.nil⟩ ?_ ?_ ?_ ?_⟩
   ·rintro j zs J _ ⟨u,_⟩
    exact SqT.of (u _ _ (S1 _ _ hps0))
   ·rintro j zs J hj ⟨_,hl,_⟩
    exact y_b (by lia)
   ·rintro j y zs J hy ⟨u,hl,hd⟩
    obtain ⟨sd,hsd,hyd⟩:=hsv0.get hy
    have h5:=hs5 sd (List.mem_of_getElem? hsd)
    have hsd':sF[j]? = some (renF a 5 sd):=by rw [hsF,List.getElem?_map,hsd,<-renF_up h5 (show 5<=6 by decide)];rfl
    unfold tYes
    refine iteT ⟨_,rfl,_,rfl,sd,y,a,rfl,h5,hyd.same (S1.trans u),by lia,fun v' J3 u3 hv'=>?_⟩
    refine ⟨u.trans u3,by rw [List.length_append,hl];rfl,?_⟩
    rw [z_y hsd']
    exact (hd.same u3).append (.cons hv' .nil)
   rintro ys2 H2 ⟨u2,hl2,hd2⟩ px hpx
   rw [List.take_of_length_le (by lia)] at hd2
   have t3:=u2.trans (z_c hpx (.lst ys2))
   have fx3:=z_b (H:=H2) (a:=px) (o:=.lst ys2)
   have hd3:=hd2.same (z_c hpx (.lst ys2))
   have npx:px≠p:=(z_g (u2 _ _ fp1) hpx).symm
   dsimp only [gName]
   generalize upd H2 px (.lst ys2)=H3 at t3 fx3 hd3 ⊢
   have T3:=S1.trans t3
   have fp3:=t3 _ _ fp1
   have hzd3:=hzd1.same t3
   refine ⟨_,rfl,_,rfl,.ref rr,a,c,lb,nm,ss,os,rfl,hvd.same T3,by lia,hlb,hc8,fun pf H4 hpf t4 g4=>?_⟩
   rw [hfs] at g4
   have npf:pf≠p:=(z_g fp3 hpf).symm
   clear hzd hzd1 hd2
   refine ⟨pf,rfl,⟨_,SqL.of g4⟩,for_list (xs:=fs.map V.str) (fun j σ J=>∃ (x7 x8:Option V) (p px:Addr) (ys zs:List V),σ=[some (.ref pl),some (.ref r),some (.str a),some (.ref p),some (.ref rr),some (.ref rq),some (.ref px),x7,x8]/\Same H J/\H p=none/\J pf=some (.lst (fs.map V.str))/\J p=some (.lst zs)/\J px=some (.lst ys)/\px≠p/\pf≠p/\Dats J ((Cp++copF (rowsF (lkL Ps) n) qt (fs.take j) sF).map Rw.dat) zs/\Dats J (lastS qt (fs.take j) sF) ys) ⟨_,_,p,px,ys2,zs,rfl,T3.trans t4,hp,g4,t4 _ _ fp3,t4 _ _ fx3,npx,npf,by show Dats _ ((Cp++[]).map Rw.dat) _;rw [List.append_nil];exact hzd3.same t4,hd3.same t4⟩ ?_ ?_ ?_⟩
   ·rintro j σ J _ ⟨_,_,_,_,_,_,rfl,_,_,h,_⟩
    exact SqL.of h
   ·rintro j v σ H' hv ⟨x7,x8,p,px,ys,zs,rfl,S',hp,ff,fp,fx,npx,npf,hzC,hys⟩
    have hj:j<fs.length:=by have:=(List.getElem?_eq_some_iff.mp hv).1;rwa [List.length_map] at this
    rw [List.getElem?_map] at hv
    obtain ⟨f,hf,rfl⟩:=Option.map_eq_some_iff.mp hv
    have hfm:=List.mem_of_getElem? hf
    have flf:=flen f hfm
    have lys:=hys.length
    have lzC:=hzC.length
    rw [List.length_map,List.length_append] at lzC
    have cl1:=cle (j+1)
    rw [z_y hf,copF_snoc,List.length_append,List.length_append] at cl1
    have nL:∀ s∈lastS qt (fs.take j) sF,noL s=true:=lastS_noL nS
    have sli:=sll j hj
    have eC:Cp++copF (rowsF (lkL Ps) n) qt (fs.take (j+1)) sF=(Cp++copF (rowsF (lkL Ps) n) qt (fs.take j) sF)++inW qt f (lastS qt (fs.take j) sF)++rowsF (lkL Ps) n qt f:=by rw [z_y hf,copF_snoc];simp only [List.append_assoc]
    have eS:lastS qt (fs.take (j+1)) sF=otW qt f:=by rw [z_y hf,lastS_snoc]
    have n2:=nR f hfm
    have nC0:∀ r∈Cp++copF (rowsF (lkL Ps) n) qt (fs.take j) sF,noL r.dat=true:=fun r hr=>(List.mem_append.mp hr).elim (nCp r) (nC j r)
    have lC0:(Cp++copF (rowsF (lkL Ps) n) qt (fs.take j) sF).length=Cp.length+(copF (rowsF (lkL Ps) n) qt (fs.take j) sF).length:=List.length_append
    generalize (copF (rowsF (lkL Ps) n) qt (fs.take j) sF).length=lc at lzC cl1 lC0
    generalize Cp++copF (rowsF (lkL Ps) n) qt (fs.take j) sF=C0 at hzC nC0 eC lC0
    generalize lastS qt (fs.take j) sF=S0 at hys lys cl1 nL sli eC
    obtain ⟨R1,hR1⟩:∃ R1,R1=inW qt f S0:=⟨_,rfl⟩
    have n1:∀ r∈R1,noL r.dat=true:=by rw [hR1];exact inW_noL nL
    have l1:R1.length=qt.ins.length:=by rw [hR1];unfold inW;rw [List.length_map,zip_len (by lia)]
    rw [<-hR1] at cl1 eC
    refine ⟨_,rfl,_,_,rfl,.inl ⟨_,SqL.of fx,rfl⟩,_,rfl,by lia,by lia,x_r (lo:=0) (fun k σ J=>∃ (x8:Option V) (zs':List V),σ=[some (.ref pl),some (.ref r),some (.str a),some (.ref p),some (.ref rr),some (.ref rq),some (.ref px),some (.str f),x8]/\Same H J/\J pf=some (.lst (fs.map V.str))/\J p=some (.lst zs')/\J px=some (.lst ys)/\Dats J S0 ys/\zs'.length=zs.length+k/\Dats J ((C0++R1.take k).map Rw.dat) zs') ⟨_,zs,rfl,S',ff,fp,fx,hys,rfl,by rw [List.take_zero,List.append_nil];exact hzC⟩ ?_ ?_⟩
    ·rintro k σ J hk ⟨x8,zs',rfl,S2,ff2,fp2,fx2,hys2,hzl2,hzd2⟩
     have hk':k<qt.ins.length:=by lia
     obtain ⟨xk,hxk⟩:∃ x,dsq[k]? = some x:=⟨dsq[k]'(by lia),List.getElem?_eq_getElem _⟩
     obtain ⟨yk,hyk⟩:∃ x,ys[k]? = some x:=⟨ys[k]'(by lia),List.getElem?_eq_getElem _⟩
     obtain ⟨dd,hdd,hxd⟩:=dq1.get hxk
     rw [List.getElem?_map] at hdd
     obtain ⟨dr,hdr,rfl⟩:=Option.map_eq_some_iff.mp hdd
     obtain ⟨sd,hsd,hyd⟩:=hys2.get hyk
     obtain ⟨ra,rfl,hra0⟩:=door_atG hxd
     have hra:=S2 _ _ hra0
     have hdl:=b3 dr (List.mem_of_getElem? hdr)
     have hR1j:R1[k]? = some (Rw.wire (f++dr.1) dr.2 sd):=by rw [hR1];unfold inW;rw [List.getElem?_map,zip_get hdr hsd];rfl
     have ak:atI dsq (0+(k:Int))=some (.ref ra):=by rw [Int.zero_add];exact y_c hxk
     have ay:atI ys (0+(k:Int))=some yk:=by rw [Int.zero_add];exact y_c hyk
     refine ⟨_,rfl,.inl ⟨rfl,_,SqL.of fp2⟩,_,rfl,_,rfl,rq,_,_,_,rfl,rfl,SqT.of (S2 _ _ k1),rfl,_,rfl,qd,_,_,_,rfl,rfl,SqT.of (S2 _ _ k2),ak,ra,_,_,_,rfl,rfl,SqT.of hra,rfl,_,_,rfl,rfl,small (by lia),_,rfl,rq,_,_,_,rfl,rfl,SqT.of (S2 _ _ k1),rfl,_,rfl,qd,_,_,_,rfl,rfl,SqT.of (S2 _ _ k2),ak,ra,_,_,_,rfl,rfl,SqT.of hra,rfl,_,rfl,_,rfl,px,_,_,_,rfl,rfl,SqL.of fx2,ay,(by show 4<=sizeLine;decide),fun pz hpz=>?_⟩
     have v2:=z_c hpz (.tup [.str "wire",.str (f++dr.1),.int dr.2,yk])
     have w2:=z_b (H:=J) (a:=pz) (o:=.tup [.str "wire",.str (f++dr.1),.int dr.2,yk])
     generalize upd J pz (.tup [.str "wire",.str (f++dr.1),.int dr.2,yk])=J2 at v2 w2 ⊢
     have fp4:=v2 _ _ fp2
     refine ⟨p,_,_,rfl,rfl,fp4,y_b (by lia),?_⟩
     have keep:KeepT J2 (upd J2 p (.lst (zs'++[.ref pz]))):=KeepT.lst fp4 _
     refine ⟨_,zs'++[.ref pz],rfl,x_u (S2.trans v2) hp _,by rw [z_j npf];exact v2 _ _ ff2,z_b,by rw [z_j npx];exact v2 _ _ fx2,Dats.keepT keep (z_u nL) (hys2.same v2),by rw [List.length_append,hzl2];rfl,?_⟩
     rw [z_y hR1j,<-List.append_assoc,List.map_append]
     refine Dats.append (Dats.keepT keep (z_u fun d hd=>?_) (hzd2.same v2)) (.cons (Dat.keepT keep (x_o (nL sd (List.mem_of_getElem? hsd))) (Dat.tup w2 (.cons (Dat.str _) (.cons (Dat.str _) (.cons (Dat.int _) (.cons (hyd.same v2) .nil)))))) .nil)
     obtain ⟨k',hk',rfl⟩:=List.mem_map.mp hd
     rcases List.mem_append.mp hk' with z | z
     ·exact nC0 k' z
     ·exact n1 k' (List.mem_of_mem_take z)
    rintro σ J ⟨x8',zs',rfl,S2,ff2,fp2,fx2,hys2,hzl2,hzd2⟩
    rw [List.take_of_length_le (by lia)] at hzd2
    refine ⟨_,rfl,_,rfl,_,rfl,_,rfl,pl,vs',Ps,qt,.ref rq,f,rfl,S2 _ _ hpl,hPs.same S2,hlen,hDq.same S2,hPf f hfm,hGA,hGA nm qt hqt,by lia,fun p2 x2 J2 hp2 v2 g2 hx2=>?_⟩
    have lx2:=hx2.length
    rw [List.length_map] at lx2
    refine ⟨p,p2,_,_,rfl,rfl,v2 _ _ fp2,g2,small (by lia),fun p3 hp3=>?_⟩
    have S3':=S2.trans v2
    have hp3H:=S3'.free hp3
    have v3:=v2.trans (z_c hp3 (.lst (zs'++x2)))
    have fp5:=z_b (H:=J2) (a:=p3) (o:=.lst (zs'++x2))
    have np3:pf≠p3:=z_g (v2 _ _ ff2) hp3
    have hD5:Dats (upd J2 p3 (.lst (zs'++x2))) ((C0++R1++rowsF (lkL Ps) n qt f).map Rw.dat) (zs'++x2):=by
     rw [List.map_append]
     exact (hzd2.same v3).append (hx2.same (z_c hp3 _))
    dsimp only [gName]
    generalize upd J2 p3 (.lst (zs'++x2))=J3 at v3 fp5 hD5 ⊢
    have S3:=S2.trans v3
    refine ⟨_,rfl,rq,_,_,_,rfl,rfl,SqT.of (S3 _ _ k1),rfl,qo,rfl,⟨_,SqT.of (S3 _ _ k3)⟩,comp_tupG (xs:=outv) (fun k ws J=>Same J3 J/\ws.length=k/\Dats J ((qt.outs.take k).map fun o=>wireD (f++o.1)) ws) ⟨Same.refl _,rfl,.nil⟩ ?_ ?_ ?_ ?_⟩
    ·rintro k ws J' _ ⟨u,_⟩
     exact SqT.of (u _ _ (S3 _ _ k3))
    ·rintro k ws J' hk ⟨_,hwl,_⟩
     exact y_b (by lia)
    ·rintro k x ws J' os' hos' hx ⟨u,hwl,hwd⟩
     obtain ⟨z1,z2,rfl⟩:=two_ad hos'
     obtain ⟨dd,hdd,hxd⟩:=dq2.get hx
     rw [List.getElem?_map] at hdd
     obtain ⟨dr,hdr,rfl⟩:=Option.map_eq_some_iff.mp hdd
     obtain ⟨ra,rfl,hra⟩:=door_atG (hxd.same (S3.trans u))
     have hdl:=b4 dr (List.mem_of_getElem? hdr)
     refine ⟨ra,_,rfl,SqT.of hra,rfl,_,_,rfl,_,_,rfl,rfl,?_⟩
     unfold tYes
     refine iteT ⟨_,rfl,_,rfl,_,_,rfl,rfl,small (by lia),(by show 2<=sizeLine;decide),fun u1 hu1=>?_⟩
     have u2:=z_c hu1 (.tup [.str "wire",.str (f++dr.1)])
     refine ⟨u.trans u2,by rw [List.length_append,hwl];rfl,?_⟩
     rw [z_y hdr,List.map_append]
     exact (hwd.same u2).append (.cons (Dat.tup z_b (.cons (Dat.str _) (.cons (Dat.str _) .nil))) .nil)
    rintro ws J4 ⟨u4,hwl,hwd⟩ py hpy
    rw [<-lov,List.take_length] at hwd
    have u5:=u4.trans (z_c hpy (.lst ws))
    refine ⟨_,_,p3,py,ws,_,rfl,S3.trans u5,hp3H,u5 _ _ (v3 _ _ ff2),u5 _ _ fp5,z_b,(z_g (u4 _ _ fp5) hpy).symm,np3,?_,by rw [eS];exact hwd.same (z_c hpy (.lst ws))⟩
    rw [eC]
    exact hD5.same u5
   rintro σ H5 ⟨x7,x8,p,py,ys,zs,rfl,S5,hp,ff5,fp5,fy5,npy,npf,hD5,hys⟩
   rw [List.length_map,List.take_length] at hD5 hys
   have lys:=hys.length
   have lz5:=hD5.length
   rw [List.length_map,List.length_append] at lz5
   have nL5:∀ s∈lastS qt fs sF,noL s=true:=lastS_noL nS
   have nC5:∀ r∈Cp++copF (rowsF (lkL Ps) n) qt fs sF,noL r.dat=true:=fun r hr=>(List.mem_append.mp hr).elim (nCp r) (copF_noL nS nR r)
   have eF:Cp++rowF (lkL Ps) (rowsF (lkL Ps) n) a (.use c lb nm ss os)=(Cp++copF (rowsF (lkL Ps) n) qt fs sF)++R3:=by rw [eU,List.append_assoc]
   generalize (copF (rowsF (lkL Ps) n) qt fs sF).length=lc at lz5 fli1 cle
   generalize Cp++copF (rowsF (lkL Ps) n) qt fs sF=C5 at hD5 nC5 eF
   refine ⟨_,rfl,_,_,rfl,.inl ⟨_,SqL.of fy5,rfl⟩,_,rfl,by lia,by lia,x_r (lo:=0) (fun k σ J=>∃ (x8:Option V) (zs':List V),σ=[some (.ref pl),some (.ref r),some (.str a),some (.ref p),some (.ref rr),some (.ref rq),some (.ref py),x7,x8]/\Same H J/\J p=some (.lst zs')/\J py=some (.lst ys)/\Dats J (lastS qt fs sF) ys/\zs'.length=zs.length+k/\Dats J ((C5++R3.take k).map Rw.dat) zs') ⟨_,zs,rfl,S5,fp5,fy5,hys,rfl,by rw [List.take_zero,List.append_nil];exact hD5⟩ ?_ ?_⟩
   ·rintro k σ J hk ⟨x8,zs',rfl,S2,fp2,fx2,hys2,hzl2,hzd2⟩
    have hk':k<qt.outs.length:=by lia
    obtain ⟨xk,hxk⟩:∃ x,outv[k]? = some x:=⟨outv[k]'(by lia),List.getElem?_eq_getElem _⟩
    obtain ⟨yk,hyk⟩:∃ x,ys[k]? = some x:=⟨ys[k]'(by lia),List.getElem?_eq_getElem _⟩
    obtain ⟨nmo,hnmo⟩:∃ x,os[k]? = some x:=⟨os[k]'(by lia),List.getElem?_eq_getElem _⟩
    obtain ⟨dd,hdd,hxd⟩:=dq2.get hxk
    rw [List.getElem?_map] at hdd
    obtain ⟨dr,hdr,rfl⟩:=Option.map_eq_some_iff.mp hdd
    obtain ⟨sd,hsd,hyd⟩:=hys2.get hyk
    obtain ⟨ra,rfl,hra0⟩:=door_atG hxd
    have hra:=S2 _ _ hra0
    have hol:=hos nmo (List.mem_of_getElem? hnmo)
    have hR3j:R3[k]? = some (Rw.wire (a++nmo) dr.2 sd):=by rw [hR3,List.getElem?_map,zip_get hnmo (zip_get hdr hsd)];rfl
    have ak:atI outv (0+(k:Int))=some (.ref ra):=by rw [Int.zero_add];exact y_c hxk
    have ay:atI ys (0+(k:Int))=some yk:=by rw [Int.zero_add];exact y_c hyk
    have ao:atI (os.map V.str) (0+(k:Int))=some (.str nmo):=by rw [Int.zero_add];exact y_c (by rw [List.getElem?_map,hnmo];rfl)
    refine ⟨_,rfl,.inl ⟨rfl,_,SqL.of fp2⟩,_,rfl,_,rfl,_,rfl,rr,_,_,_,rfl,rfl,SqT.of (S2 _ _ er0),y1,_,rfl,po',_,_,_,rfl,rfl,SqT.of (S2 _ _ hpo0),ao,_,_,rfl,rfl,small (by lia),_,rfl,rq,_,_,_,rfl,rfl,SqT.of (S2 _ _ k1),rfl,_,rfl,qo,_,_,_,rfl,rfl,SqT.of (S2 _ _ k3),ak,ra,_,_,_,rfl,rfl,SqT.of hra,rfl,_,rfl,_,rfl,py,_,_,_,rfl,rfl,SqL.of fx2,ay,(by show 4<=sizeLine;decide),fun pz hpz=>?_⟩
    have v2:=z_c hpz (.tup [.str "wire",.str (a++nmo),.int dr.2,yk])
    have w2:=z_b (H:=J) (a:=pz) (o:=.tup [.str "wire",.str (a++nmo),.int dr.2,yk])
    generalize upd J pz (.tup [.str "wire",.str (a++nmo),.int dr.2,yk])=J2 at v2 w2 ⊢
    have fp4:=v2 _ _ fp2
    refine ⟨p,_,_,rfl,rfl,fp4,y_b (by lia),?_⟩
    have keep:KeepT J2 (upd J2 p (.lst (zs'++[.ref pz]))):=KeepT.lst fp4 _
    refine ⟨_,zs'++[.ref pz],rfl,x_u (S2.trans v2) hp _,z_b,by rw [z_j npy];exact v2 _ _ fx2,Dats.keepT keep (z_u nL5) (hys2.same v2),by rw [List.length_append,hzl2];rfl,?_⟩
    rw [z_y hR3j,<-List.append_assoc,List.map_append]
    refine Dats.append (Dats.keepT keep (z_u fun d hd=>?_) (hzd2.same v2)) (.cons (Dat.keepT keep (x_o (nL5 sd (List.mem_of_getElem? hsd))) (Dat.tup w2 (.cons (Dat.str _) (.cons (Dat.str _) (.cons (Dat.int _) (.cons (hyd.same v2) .nil)))))) .nil)
    obtain ⟨k',hk',rfl⟩:=List.mem_map.mp hd
    rcases List.mem_append.mp hk' with z | z
    ·exact nC5 k' z
    ·exact n3 k' (List.mem_of_mem_take z)
   ·rintro σ J ⟨x8',zs',rfl,S2,fp2,_,_,_,hzd2⟩
    rw [List.take_of_length_le (by lia)] at hzd2
    refine ⟨_,_,_,_,_,p,zs',rfl,S2,hp,fp2,?_⟩
    rw [x_n hrw,hCp,eF]
    exact hzd2
 ·rintro σ H' ⟨x4,x5,x6,x7,x8,p,zs,rfl,s',hp,fp,hzd⟩
  rw [<-l3,List.take_length] at hzd
  exact ⟨_,rfl,q p zs H' hp s' fp hzd⟩
theorem ok_law(T:Tx w K mg A)(G_L_plan:FnOk P w K mg base CX0 13 A.a_L_plan A.d_L_plan ["_law_bag_here"] sp_plan9)(G_L_spread:FnOk P w K mg base CX0 14 A.a_L_spread A.d_L_spread ["_law_plan_here", "_law_part_here", "_law_head"] (sp_Lspr 3))(G_L_bag:FnOk P w K mg base CX0 1 A.a_L_bag A.d_L_bag ["_law_script", "_law_at"] (sp_L_bag K))(G_spread:FnOk P w K mg base CX0 17 A.a_spread A.d_spread ["plan"] (sp_spreadG 3))(G_L_same:FnOk P w K mg base CX0 14 A.a_L_same A.d_L_same ["_law_found", "_law_due"] (sp_sameD 11)):FnOk P w K mg base CX0 18 A.a_law A.d_law ["_law_script"] (sp_law K):=by
 refine T.F_law.ok sc_law (fun vs H Q E h=>?_) (fun cdv A' outer s H vs Q E hr h=>?_)
 ·obtain ⟨a,ns,rfl,hS,h63,q⟩:=h
  rfl
 obtain ⟨a,ns,rfl,hS,h63,q⟩:=h
 have hu64:=hr.units
 refine ⟨_,(z_f (z_r (i:=1) sc_law.nd rfl (Or.inl rfl) (z_k G_L_plan (hr.mono (by first | decide | lia)) rfl T.M_L_plan T.F_L_plan.kp T.B_L_plan .nil pass0 (z_a (z_k G_L_bag (hr.mono (by first | decide | lia)) rfl T.M_L_bag T.F_L_bag.kp T.B_L_bag .nil pass0 (z_a (pv 0) (z_a z_e z_d))) z_d)))
  (z_f (z_r (i:=2) sc_law.nd rfl (Or.inl rfl) (z_k G_L_spread (hr.mono (by first | decide | lia)) rfl T.M_L_spread T.F_L_spread.kp T.B_L_spread .nil pass0 (z_a (pv 1) (z_a (z_l y_p (pv 1) (pe_un un_neg z_e) (fun _ _=>rfl)) (z_a z_t z_d)))))
  (z_f (z_r (i:=3) sc_law.nd rfl (Or.inl rfl) (y_g call_list_of rfl T.list PyProof.Rows.boot_list (z_a (pv 1) z_d)))
  (z_f (x_e PassesOwn.never rfl (y_o rfl T.range (z_a z_e z_d)) (z_v (i:=4) sc_law.nd rfl (Or.inl rfl))
    (z_f (z_r (i:=5) sc_law.nd rfl (Or.inl rfl) (z_k G_spread (hr.mono (by first | decide | lia)) rfl T.M_spread T.F_spread.kp T.B_spread .nil pass0 (z_a (pv 3) z_d)))
  (z_f (x_a (PW.pt (pw_or (pt_not (pt_truth (z_k G_L_same (hr.mono (by first | decide | lia)) rfl T.M_L_same T.F_L_same.kp T.B_L_same .nil pass0 (z_a (pv 5) (z_a (y_d (z_a (y_g call_list_of rfl T.list PyProof.Rows.boot_list (z_a (z_l ix_tup (z_l y_p (pv 1) (pe_un un_neg z_e) (fun _ _=>rfl)) z_e (fun _ _=>rfl)) z_d)) (z_a (y_g call_list_of rfl T.list PyProof.Rows.boot_list (z_a (z_l ix_tup (z_l y_p (pv 1) (pe_un un_neg z_e) (fun _ _=>rfl)) z_e (fun _ _=>rfl)) z_d)) (z_a (pv 2) z_d)))) z_d))) (fun _=>rfl))) (pw_or1 (z_s (op_neD hu64) (pv 3) (pv 1) (nomark _))))) (z_i (z_z pe_bl)) y_a)
  (z_f (ps_comp [] sc_law.nd (i:=6) rfl (Or.inl rfl) (fun _ _ h=>h) rfl (pi_list (z_l ix_tup (pv 5) z_e (fun _ _=>rfl))) (fun _ _ _ _=>y_n) (fun _ _ _ _=>(z_l (ix_tupK (K:=K) rfl) (pv 0) z_e (fun _ _=>rfl))) rfl (show ∀ j∈([]:List Nat),j<8 by decide) (show (["_law_row"]:List Str).Nodup by decide +kernel) (by with_unfolding_all rfl))
  (z_f (x_a (z_s op_ne (z_p call_lenT2 rfl T.len PySem.boot_len (z_a (y_g (call_setT rfl hu64) rfl T.set PyProof.Rows.boot_set (z_a (pv 6) z_d)) z_d)) (z_p call_len rfl T.len PySem.boot_len (z_a (pv 6) z_d)) (nomark _)) (z_i (z_z pe_bl)) y_a)
  (z_i (x_e PassesOwn.never rfl (pi_tup (pv 5)) (z_v (i:=7) sc_law.nd rfl (Or.inl rfl))
    (z_f (x_b (pe_bm PySem.F.plainAttrs_list PySem.F.slot_list_append PySem.F.type_list_append y_u (pv 7) (z_a (y_d (z_a z_t (z_a z_e z_d))) z_d)))
  (z_i (x_b (pe_bm0 PySem.F.plainAttrs_list PySem.F.slot_list_reverse PySem.F.type_list_reverse mt_reverse (pv 7))))))))))))
  (z_i (z_z pe_bl)))))),?_⟩
 refine ⟨_,rfl,a,ns,0,rfl,hS,h63,by decide,fun l0 b0 b1 hl0 hb0=>?_⟩
 have t1:=z_c hl0 (.lst [.int b0,.int b1])
 have B1:Bag (upd H l0 (.lst [.int b0,.int b1])) l0:=⟨b0,b1,z_b,hb0⟩
 generalize upd H l0 (.lst [.int b0,.int b1])=H1 at t1 B1 ⊢
 refine ⟨l0,rfl,B1,fun pl vs' Ps H2 g2 fp2 D2 hg h1 h3 h60 npl=>?_⟩
 dsimp only [gName]
 obtain ⟨Pi,P',eP⟩:∃ Pi P',Ps=Pi++[P']:=⟨Ps.dropLast,Ps.getLast (fun e=>by rw [e] at h1;exact absurd h1 (by decide)),(List.dropLast_concat_getLast _).symm⟩
 have lvs:=D2.length
 rw [List.length_map] at lvs
 obtain ⟨vi,vl,ev⟩:∃ vi vl,vs'=vi++[vl]:=⟨vs'.dropLast,vs'.getLast (fun e=>by rw [e] at lvs;have:Ps.length=0:=lvs;lia),(List.dropLast_concat_getLast _).symm⟩
 have hPm:P'∈Ps:=by rw [eP];exact List.mem_append_right _ (List.mem_singleton.mpr rfl)
 have DP:Dat H2 P'.dat vl:=by
  have hvl:vs'[vi.length]? = some vl:=by rw [ev,List.getElem?_append_right (Nat.le_refl _),Nat.sub_self];rfl
  obtain ⟨dd,h1,h2⟩:=D2.get hvl
  have e1:vi.length=Pi.length:=by
   rw [eP,ev,List.length_append,List.length_append] at lvs
   have e2:Pi.length+1=vi.length+1:=lvs
   lia
  rw [List.getElem?_map,eP,e1,List.getElem?_append_right (Nat.le_refl _),Nat.sub_self] at h1
  cases h1
  exact h2
 obtain ⟨okL,okA,eLA,hnd,hlen⟩:=good_end hg h3 hPm
 have h60':=h60 P' hPm
 rw [sz_end hg h3 hPm] at hlen
 have hj:=x_s hg
 have hPJ:=hj P' hPm
 obtain ⟨gdA,gd1⟩:=good_gd hg
 have hvd:atI vs' (-1)=some vl:=by rw [ev];exact atI_last _ _
 obtain ⟨r,pd,po,pr,ds,os,rs,rfl,k1,k2,k3,k4,d1,d2,d3⟩:=x_c DP
 refine ⟨_,rfl,_,rfl,_,rfl,pl,_,_,_,rfl,rfl,SqL.of fp2,hvd,pl,vs',Ps,P',.ref r, "",rfl,fp2,D2,by lia,DP,okL,gdA,gd1 P' hPm,by lia,fun pu xs H3 hpu s3 fu3 hxs=>?_⟩
 dsimp only [gName]
 have fp3:=s3 _ _ fp2
 refine ⟨_,rfl,pl,_,rfl,.inl (SqL.of fp3),fun pc hpc=>?_⟩
 have s4:=z_c hpc (.lst vs')
 have S4:=s3.trans s4
 have fc4:=z_b (H:=H3) (a:=pc) (o:=.lst vs')
 have fp4:=s4 _ _ fp3
 have fu4:=s4 _ _ fu3
 have hxs4:=hxs.same s4
 have D4:=D2.same S4
 show tSeq _ _ _ [some (.ref a),some (.ref pl),some (.ref pu),some (.ref pc),none,none,none,none] (upd H3 pc (.lst vs'))
 generalize upd H3 pc (.lst vs')=H4 at s4 S4 fc4 fp4 fu4 hxs4 D4 ⊢
 have hr4:=S4 _ _ k1
 have hpd4:=S4 _ _ k2
 have hpo4:=S4 _ _ k3
 have d14:=d1.same S4
 have d24:=d2.same S4
 clear S4 s4 s3 hpc hpu hxs fu3 fp3 fp2 D2 DP k1 k2 k3 k4 d1 d2 d3
 have hPs100:∀ q∈Ps,q.rows.length<=1000:=fun q hq=>Nat.le_trans (hj q hq).rl (by decide)
 have hlast:Ps.getLast? = some P':=by rw [eP];exact List.getLast?_concat
 have cmpA:Cmp 64 (.list (Ps.map Pt.dat)):=(DOk.cmp (n:=12) (.lst (by rw [List.length_map];lia) fun e he=>by
  obtain ⟨p,hp,rfl⟩:=List.mem_map.mp he
  exact good_dok hg p hp)).mono (by decide)
 have il:=hPJ.il
 have ol:=hPJ.ol
 have dokA:DOk 11 (.tuple [.list (P'.ins.map doorD),.list (P'.outs.map doorD),.list ((rowsF (lkL Ps) 3 P' "").map Rw.dat)]):=.tup (by show 3<=10000;decide) fun e he=>by
  simp only [List.mem_cons,List.not_mem_nil,or_false] at he
  rcases he with rfl | rfl | rfl
  ·exact .lst (by rw [List.length_map];lia) fun e he=>(dok_doors (fun d hd=>(hPJ.ins d hd).1) e he).up (by decide)
  ·exact .lst (by rw [List.length_map];lia) fun e he=>(dok_doors (fun d hd=>(hPJ.outs d hd).1) e he).up (by decide)
  ·refine .lst (by rw [List.length_map];lia) fun e he=>?_
   obtain ⟨w,hw,rfl⟩:=List.mem_map.mp he
   exact (rows_dok (fun nm q e=>hj q (lkL_mem e).1) hPJ (by decide +kernel) w hw).up (by decide)
 have hwb:∀ r∈rowsF (lkL Ps) 3 P' "",isWB r:=rows_wb
 have lenA:(rowsF (lkA Ps) 3 P' "").length<=10000:=by rw [eLA];lia
 have lrow:(rowsF (lkL Ps) 3 P' "").length<=60:=by lia
 refine ⟨_,rfl,by decide,by decide,x_r (lo:=0) (fun i σ H'=>∃ (x4 x5 x6 x7:Option V),σ=[some (.ref a),some (.ref pl),some (.ref pu),some (.ref pc),x4,x5,x6,x7]/\Same H4 H') ⟨_,_,_,_,rfl,Same.refl _⟩ ?_ ?_⟩
 ·rintro i σ H1 hi ⟨x4,x5,x6,x7,rfl,s1⟩
  refine ⟨_,rfl,pc,vs',Ps,P',rfl,s1 _ _ fc4,D4.same s1,hlast,by lia,hPs100,okA,lenA,fun t l1 l2 l3 x1 x2 x3 H2 s2 hfr hne ft f1 f2 f3 d1 d2 d3=>?_⟩
  rw [eLA] at d3
  generalize rowsF (lkL Ps) 3 P' "" = rows at *
  have S2:=s1.trans s2
  have n1:=d1.length
  have n2:=d2.length
  have n3:=d3.length
  rw [List.length_map] at n1 n2 n3
  have hr2:=S2 _ _ hr4
  have fp2:=S2 _ _ fp4
  dsimp only [gName]
  show tSeq _ _ _ [some (.ref a),some (.ref pl),some (.ref pu),some (.ref pc),some (.int (0+(i:Int))),some (.ref t),x6,x7] H2
  refine ⟨_,rfl,_,rfl,_,rfl,pl,_,_,_,rfl,rfl,SqL.of fp2,hvd,r,_,_,_,rfl,rfl,SqT.of hr2,rfl,pd,_,rfl,.inr (SqT.of (S2 _ _ hpd4)),fun li hli=>?_⟩
  have s3:=z_c hli (.lst ds)
  have g3:=z_b (H:=H2) (a:=li) (o:=.lst ds)
  generalize upd H2 li (.lst ds)=H3 at s3 g3 ⊢
  refine ⟨_,rfl,_,rfl,pl,_,_,_,rfl,rfl,SqL.of (s3 _ _ fp2),hvd,r,_,_,_,rfl,rfl,SqT.of (s3 _ _ hr2),rfl,po,_,rfl,.inr (SqT.of (s3 _ _ (S2 _ _ hpo4))),fun lo hlo=>?_⟩
  have s4':=z_c hlo (.lst os)
  have s4:=s3.trans s4'
  have g34:=s4' _ _ g3
  have g4:=z_b (H:=H3) (a:=lo) (o:=.lst os)
  generalize upd H3 lo (.lst os)=H4' at s4 s4' g34 g4 ⊢
  refine ⟨_,rfl,(by show 3<=sizeLine;decide),fun tt htt=>?_⟩
  have s5':=z_c htt (.tup [.ref li,.ref lo,.ref pu])
  have s5:=s4.trans s5'
  have g35:=s5' _ _ g34
  have g45:=s5' _ _ g4
  have g5:=z_b (H:=H4') (a:=tt) (o:=.tup [.ref li,.ref lo,.ref pu])
  generalize upd H4' tt (.tup [.ref li,.ref lo,.ref pu])=H5 at s5 s5' g35 g45 g5 ⊢
  have S5:=S2.trans s5
  refine ⟨_,_,_,rfl,dokA,Dat.tup (s5 _ _ ft) (.cons (Dat.lst (s5 _ _ f1) (d1.same s5)) (.cons (Dat.lst (s5 _ _ f2) (d2.same s5)) (.cons (Dat.lst (s5 _ _ f3) (d3.same s5)) .nil))),Dat.tup g5 (.cons (Dat.lst g35 (d14.same S5)) (.cons (Dat.lst g45 (d24.same S5)) (.cons (Dat.lst (S5 _ _ fu4) (hxs4.same S5)) .nil))),fun H6 s6=>⟨_,rfl,?_⟩⟩
  refine iteF ?_
  have S6:=S5.trans s6
  have s26:=s5.trans s6
  refine ⟨_,rfl,_,rfl,rEqD.eq (.list (Ps.map Pt.dat)) (RdD.lst (SqL.of (S6 _ _ fc4)) (D4.same S6).rd) (RdD.lst (SqL.of (S6 _ _ fp4)) (D4.same S6).rd) cmpA ⟨_,rfl,?_⟩⟩
  refine iteF ?_
  have f36:=s26 _ _ f3
  have d36:=d3.same s26
  refine ⟨_,rfl,t,_,_,_,rfl,rfl,SqT.of (s26 _ _ ft),rfl,l3,rfl,⟨_,SqL.of f36⟩,comp_list (xs:=x3) (fun i ys J=>H6=J/\ys=((rows.take i).map nmR).map V.str) ⟨rfl,rfl⟩ ?_ ?_ ?_ ?_⟩
  ·rintro i ys J _ ⟨rfl,_⟩
   exact SqL.of f36
  ·rintro i ys J hi ⟨rfl,rfl⟩
   rw [List.length_map,List.length_map,List.length_take]
   exact y_b (by lia)
  ·rintro i y ys J hy ⟨rfl,rfl⟩
   obtain ⟨dd,hdd,hyd⟩:=d36.get hy
   rw [List.getElem?_map] at hdd
   obtain ⟨rw_,hrw,rfl⟩:=Option.map_eq_some_iff.mp hdd
   obtain ⟨p,xs',rfl,hp,hat⟩:=wb_at (hwb rw_ (List.mem_of_getElem? hrw)) hyd
   unfold tYes
   refine iteT ⟨_,rfl,p,_,_,_,rfl,rfl,SqT.of hp,hat,rfl,?_⟩
   rw [z_y hrw,List.map_append,List.map_append]
   rfl
  rintro ys J ⟨rfl,rfl⟩ pn hpn
  rw [List.take_of_length_le (by lia)]
  have s7:=z_c hpn (.lst ((rows.map nmR).map V.str))
  have g7:=z_b (H:=H6) (a:=pn) (o:=.lst ((rows.map nmR).map V.str))
  dsimp only [gName]
  generalize upd H6 pn (.lst ((rows.map nmR).map V.str))=H7 at s7 g7 ⊢
  have lnm:(rows.map nmR).length=rows.length:=List.length_map _
  refine ⟨_,rfl,pn,rows.map nmR,rfl,g7,hnd,by lia,fun ps hps=>?_⟩
  have s8:=s7.trans (z_c hps (STO ps (rows.map nmR).length))
  have g8:=z_b (H:=H7) (a:=ps) (o:=STO ps (rows.map nmR).length)
  have g78:=(z_c hps (STO ps (rows.map nmR).length)) _ _ g7
  generalize upd H7 ps (STO ps (rows.map nmR).length)=H8 at s8 g8 g78 ⊢
  refine ⟨ps,_,rfl,g8,?_⟩
  refine ⟨_,rfl,_,_,rfl,.inl ⟨_,SqL.of g78,rfl⟩,rfl,_,rfl,?_⟩
  refine ite_f (by rw [decide_eq_true (show V.int ((rows.map nmR).length:Int)=V.int (((rows.map nmR).map V.str).length:Int) by rw [List.length_map (f:=V.str)])];rfl) ?_
  have S8:=S6.trans s8
  have s28:=s26.trans s8
  have al:AllL8 H8 [l1,l2,l3] 1000:=fun b hb=>by
   simp only [List.mem_cons,List.not_mem_nil,or_false] at hb
   rcases hb with rfl | rfl | rfl
   ·exact ⟨_,s28 _ _ f1,by lia⟩
   ·exact ⟨_,s28 _ _ f2,by lia⟩
   ·exact ⟨_,s28 _ _ f3,by lia⟩
  have hfr':∀ b∈[l1,l2,l3],H1 b=none:=fun b hb=>by
   simp only [List.mem_cons,List.not_mem_nil,or_false] at hb
   rcases hb with rfl | rfl | rfl
   ·exact hfr.1
   ·exact hfr.2.1
   ·exact hfr.2.2
  refine ⟨_,rfl,t,rfl,⟨_,SqT.of (s28 _ _ ft)⟩,for_tup (xs:=[l1,l2,l3].map V.ref) (fun i' σ J=>∃ x7:Option V,σ=[some (.ref a),some (.ref pl),some (.ref pu),some (.ref pc),some (.int (0+(i:Int))),some (.ref t),some (.ref pn),x7]/\Same H4 J/\J t=some (.tup ([l1,l2,l3].map V.ref))/\AllL8 J [l1,l2,l3] (1000+i')) ⟨_,rfl,S8,s28 _ _ ft,al⟩ ?_ ?_ ?_⟩
  ·rintro i' σ J _ ⟨_,rfl,_,h,_⟩
   exact SqT.of h
  ·rintro i' v σ J hv ⟨x7,rfl,sj,fj,aj⟩
   have hi':i'<3:=(List.getElem?_eq_some_iff.mp hv).1
   rw [List.getElem?_map] at hv
   obtain ⟨b,hb,rfl⟩:=Option.map_eq_some_iff.mp hv
   have hbm:=List.mem_of_getElem? hb
   obtain ⟨ys,fy,ly⟩:=aj b hbm
   have hbn:H4 b=none:=s1.free (hfr' b hbm)
   refine ⟨_,rfl,.inl ⟨rfl,_,SqL.of fy⟩,(by show 2<=sizeLine;decide),fun pz hpz=>?_⟩
   have u1:=z_c hpz (.tup [.str "a",.int 1])
   refine ⟨b,_,_,rfl,rfl,u1 _ _ fy,y_b (by lia),?_⟩
   refine ⟨_,rfl,.inl ⟨rfl,_,SqL.of z_b⟩,b,_,rfl,rfl,z_b,?_⟩
   have sk:Same H4 (upd (upd (upd J pz (.tup [.str "a",.int 1])) b (.lst (ys++[.ref pz]))) b (.lst (ys++[V.ref pz]).reverse)):=x_u (x_u (sj.trans u1) hbn _) hbn _
   have nbt:t≠b:=fun e=>by rw [e,fy] at fj;cases fj
   refine ⟨_,rfl,sk,by rw [z_j nbt,z_j nbt];exact u1 _ _ fj,fun c hc=>?_⟩
   by_cases e:c=b
   ·subst e
    exact ⟨_,z_b,by rw [List.length_reverse,List.length_append,List.length_singleton];lia⟩
   ·obtain ⟨ws,fw',lw⟩:=aj c hc
    exact ⟨ws,by rw [z_j e,z_j e];exact u1 _ _ fw',by lia⟩
  rintro σ J ⟨x7,rfl,sj,_⟩
  exact ⟨_,_,_,_,rfl,sj⟩
 rintro σ H1 ⟨x4,x5,x6,x7,rfl,s1⟩
 exact q _
end
theorem ren_all{P:Program}{w:World}{K:PySem.W.Frag}{mg:Str->Option Value}{base:Heap}{A:Ad}(T:Tx w K mg A)(G_sayings_in:FnOk P w K mg base CX0 1 A.a_sayings_in A.d_sayings_in ["saying"] sp_sayings_in):∀ n:Nat,FnOk P w K mg base CX0 (n+2) A.a_renamed A.d_renamed ["saying", "ahead"] (sp_ren n)
 | 0=>fn_none fun vs H Q E h=>by
  obtain ⟨_,_,_,_,_,_,hR,_⟩:=h
  exact hR
 | n+1=>ok_renamed T G_sayings_in n (ren_all T G_sayings_in n)
theorem rows_all{P:Program}{w:World}{K:PySem.W.Frag}{mg:Str->Option Value}{base:Heap}{A:Ad}(T:Tx w K mg A)(G_renamed:FnOk P w K mg base CX0 9 A.a_renamed A.d_renamed ["saying", "ahead"] (sp_ren 6))(G_fronts_of:FnOk P w K mg base CX0 1 A.a_fronts_of A.d_fronts_of ["row", "ahead"] sp_fronts):∀ n:Nat,FnOk P w K mg base CX0 (2*n+10) A.a_rows_of A.d_rows_of ["part", "ahead", "parts"] (sp_rowsG n)
 | 0=>fn_none fun vs H Q E h=>by
  obtain ⟨_,_,_,_,_,_,_,_,_,_,hR,_⟩:=h
  exact hR
 | n+1=>ok_rows_of T G_renamed n (ok_rows_of_use T G_renamed G_fronts_of n (rows_all T G_renamed G_fronts_of n))
theorem use_all{P:Program}{w:World}{K:PySem.W.Frag}{mg:Str->Option Value}{base:Heap}{A:Ad}(T:Tx w K mg A)(G_renamed:FnOk P w K mg base CX0 9 A.a_renamed A.d_renamed ["saying", "ahead"] (sp_ren 6))(G_fronts_of:FnOk P w K mg base CX0 1 A.a_fronts_of A.d_fronts_of ["row", "ahead"] sp_fronts)(n:Nat):FnOk P w K mg base CX0 (2*n+11) A.a_rows_of_use A.d_rows_of_use ["row", "ahead", "parts"] (sp_useG n):=ok_rows_of_use T G_renamed G_fronts_of n (rows_all T G_renamed G_fronts_of n)
theorem typed_all{P:Program}{w:World}{K:PySem.W.Frag}{mg:Str->Option Value}{base:Heap}{A:Ad}(T:Tx w K mg A)(G_L_take:FnOk P w K mg base CX0 1 A.a_L_take A.d_L_take ["_law_bag_here", "_law_many"] y_v)(G_L_leaf:FnOk P w K mg base CX0 2 A.a_L_leaf A.d_L_leaf ["_law_bag_here", "_law_widths", "_law_width"] sp_leaf8)(G_L_wants:FnOk P w K mg base CX0 2 A.a_L_wants A.d_L_wants ["_law_bag_here", "_law_word", "_law_width"] sp_L_wants)(G_L_rooms:FnOk P w K mg base CX0 2 A.a_L_rooms A.d_L_rooms ["_law_bag_here", "_law_room", "_law_many"] sp_L_rooms):∀ n,FnOk P w K mg base CX0 (n+2) A.a_L_typed A.d_L_typed ["_law_bag_here", "_law_widths", "_law_width", "_law_deep", "_law_room"] (sp_typed8 n)
 | 0=>fn_none fun vs H Q E h=>by
  obtain ⟨_,_,_,_,_,_,_,h1,_⟩:=h
  lia
 | n+1=>ok_L_typed T G_L_take G_L_leaf G_L_wants G_L_rooms n (typed_all T G_L_take G_L_leaf G_L_wants G_L_rooms n)
theorem count_all{P:Program}{w:World}{K:PySem.W.Frag}{mg:Str->Option Value}{base:Heap}{A:Ad}(T:Tx w K mg A):∀ n:Nat,FnOk P w K mg base CX0 (n+2) A.a_L_count A.d_L_count ["_law_saying"] (sp_count n)
 | 0=>fn_none fun vs H Q E h=>by
  obtain ⟨_,_,_,h,_⟩:=h
  exact h
 | n+1=>ok_L_count T n (count_all T n)
theorem headed_all{P:Program}{w:World}{K:PySem.W.Frag}{mg:Str->Option Value}{base:Heap}{A:Ad}(T:Tx w K mg A):∀ n:Nat,FnOk P w K mg base CX0 (n+2) A.a_L_headed A.d_L_headed ["_law_thing", "_law_head"] (sp_headed n)
 | 0=>fn_none fun vs H Q E h=>by
  obtain ⟨_,_,_,_,h,_⟩:=h
  exact h
 | n+1=>ok_L_headed T n (headed_all T n)
theorem spr_all{P:Program}{w:World}{K:PySem.W.Frag}{mg:Str->Option Value}{base:Heap}{A:Ad}(T:Tx w K mg A)(G_L_headed:FnOk P w K mg base CX0 8 A.a_L_headed A.d_L_headed ["_law_thing", "_law_head"] (sp_headed 5))(G_L_copies:FnOk P w K mg base CX0 1 A.a_L_copies A.d_L_copies ["_law_row", "_law_head"] sp_fronts):∀ n:Nat,FnOk P w K mg base CX0 (n+10) A.a_L_spread A.d_L_spread ["_law_plan_here", "_law_part_here", "_law_head"] (sp_Lspr n)
 | 0=>fn_none fun vs H Q E h=>by
  obtain ⟨_,_,_,_,_,_,_,_,_,_,_,h,_⟩:=h
  exact h
 | n+1=>ok_L_spread T G_L_headed G_L_copies n (spr_all T G_L_headed G_L_copies n)
theorem same_all{P:Program}{w:World}{K:PySem.W.Frag}{mg:Str->Option Value}{base:Heap}{A:Ad}(T:Tx w K mg A):∀ n:Nat,FnOk P w K mg base CX0 (n+2) A.a_L_same A.d_L_same ["_law_found", "_law_due"] (sp_sameD n)
 | 0=>fn_none fun vs H Q E h=>by
  obtain ⟨_,_,_,_,h,_⟩:=h
  exact h
 | n+1=>ok_L_same T n (same_all T n)
theorem all_ok{P:Program}{w:World}{K:PySem.W.Frag}{mg:Str->Option Value}{base:Heap}{A:Ad}(T:Tx w K mg A):FnOk P w K mg base CX0 18 A.a_law A.d_law ["_law_script"] (sp_law K):=by
 have G_sayings_in:=ok_sayings_in (P:=P) (base:=base) T
 have G_brings_rows:=ok_brings_rows (P:=P) (base:=base) T
 have G_fronts_of:=ok_fronts_of (P:=P) (base:=base) T
 have G_renamed:=(ren_all (P:=P) (base:=base) T G_sayings_in 6).mono (show 8<=9 by decide)
 have G_rows_of_use:=use_all (P:=P) (base:=base) T G_renamed G_fronts_of 2
 have G_rows_of:=rows_all (P:=P) (base:=base) T G_renamed G_fronts_of 3
 have G_spread:=ok_spread (P:=P) (base:=base) T G_brings_rows G_rows_of
 have G_L_bag:=ok_L_bag (P:=P) (base:=base) T
 have G_L_take:=ok_L_take (P:=P) (base:=base) T
 have G_L_pool:=ok_L_pool (P:=P) (base:=base) T G_L_take
 have G_L_rooms:=ok_L_rooms (P:=P) (base:=base) T G_L_take
 have G_L_leaf:=ok_L_leaf (P:=P) (base:=base) T G_L_take
 have G_L_wants:=ok_L_wants (P:=P) (base:=base) T G_L_take
 have G_L_typed:=fn_ex (sp:=sp_typed8) (N:=4) fun n hn=>(typed_all (P:=P) (base:=base) T G_L_take G_L_leaf G_L_wants G_L_rooms n).mono (show n+2<=9 by lia)
 have G_L_count:=(count_all (P:=P) (base:=base) T 5).mono (show 7<=8 by decide)
 have G_L_cost:=ok_L_cost (P:=P) (base:=base) T
 have G_L_use:=ok_L_use (P:=P) (base:=base) T G_L_cost G_L_take G_L_typed G_L_count
 have G_L_rows:=ok_L_rows (P:=P) (base:=base) T G_L_take G_L_use G_L_typed G_L_count
 have G_L_part:=ok_L_part (P:=P) (base:=base) T G_L_pool G_L_rows G_L_take G_L_typed G_L_count
 have G_L_plan:=ok_L_plan (P:=P) (base:=base) T G_L_pool G_L_take G_L_part
 have G_L_headed:=(headed_all (P:=P) (base:=base) T 5).mono (show 7<=8 by decide)
 have G_L_same:=(same_all (P:=P) (base:=base) T 11).mono (show 13<=14 by decide)
 have G_L_copies:=ok_L_copies (P:=P) (base:=base) T
 have G_L_spread:=(spr_all (P:=P) (base:=base) T G_L_headed G_L_copies 3).mono (show 13<=14 by decide)
 exact ok_law T G_L_plan G_L_spread G_L_bag G_spread G_L_same
theorem of_len1{fd:FuncData}{ns:List Str}(h:∀ a0,bindArgs fd ⟨[a0],[]⟩=pure (ns.zip [a0])):∀ us:List Value,us.length=1->bindArgs fd ⟨us,[]⟩=pure (ns.zip us):=fun us hl=>by
 exact x_d (P:=fun us=>bindArgs fd ⟨us,[]⟩=pure (ns.zip (us))) (fun a0=>l_nil (h a0)) us hl
theorem of_len2{fd:FuncData}{ns:List Str}(h:∀ a0 a1,bindArgs fd ⟨[a0,a1],[]⟩=pure (ns.zip [a0,a1])):∀ us:List Value,us.length=2->bindArgs fd ⟨us,[]⟩=pure (ns.zip us):=fun us hl=>by
 exact x_d (P:=fun us=>bindArgs fd ⟨us,[]⟩=pure (ns.zip (us))) (fun a0=>x_d (P:=fun us=>bindArgs fd ⟨a0::us,[]⟩=pure (ns.zip (a0::us))) (fun a1=>l_nil (h a0 a1))) us hl
theorem of_len3{fd:FuncData}{ns:List Str}(h:∀ a0 a1 a2,bindArgs fd ⟨[a0,a1,a2],[]⟩=pure (ns.zip [a0,a1,a2])):∀ us:List Value,us.length=3->bindArgs fd ⟨us,[]⟩=pure (ns.zip us):=fun us hl=>by
 exact x_d (P:=fun us=>bindArgs fd ⟨us,[]⟩=pure (ns.zip (us))) (fun a0=>x_d (P:=fun us=>bindArgs fd ⟨a0::us,[]⟩=pure (ns.zip (a0::us))) (fun a1=>x_d (P:=fun us=>bindArgs fd ⟨a0::a1::us,[]⟩=pure (ns.zip (a0::a1::us))) (fun a2=>l_nil (h a0 a1 a2)))) us hl
theorem of_len4{fd:FuncData}{ns:List Str}(h:∀ a0 a1 a2 a3,bindArgs fd ⟨[a0,a1,a2,a3],[]⟩=pure (ns.zip [a0,a1,a2,a3])):∀ us:List Value,us.length=4->bindArgs fd ⟨us,[]⟩=pure (ns.zip us):=fun us hl=>by
 exact x_d (P:=fun us=>bindArgs fd ⟨us,[]⟩=pure (ns.zip (us))) (fun a0=>x_d (P:=fun us=>bindArgs fd ⟨a0::us,[]⟩=pure (ns.zip (a0::us))) (fun a1=>x_d (P:=fun us=>bindArgs fd ⟨a0::a1::us,[]⟩=pure (ns.zip (a0::a1::us))) (fun a2=>x_d (P:=fun us=>bindArgs fd ⟨a0::a1::a2::us,[]⟩=pure (ns.zip (a0::a1::a2::us))) (fun a3=>l_nil (h a0 a1 a2 a3))))) us hl
theorem of_len5{fd:FuncData}{ns:List Str}(h:∀ a0 a1 a2 a3 a4,bindArgs fd ⟨[a0,a1,a2,a3,a4],[]⟩=pure (ns.zip [a0,a1,a2,a3,a4])):∀ us:List Value,us.length=5->bindArgs fd ⟨us,[]⟩=pure (ns.zip us):=fun us hl=>by
 exact x_d (P:=fun us=>bindArgs fd ⟨us,[]⟩=pure (ns.zip (us))) (fun a0=>x_d (P:=fun us=>bindArgs fd ⟨a0::us,[]⟩=pure (ns.zip (a0::us))) (fun a1=>x_d (P:=fun us=>bindArgs fd ⟨a0::a1::us,[]⟩=pure (ns.zip (a0::a1::us))) (fun a2=>x_d (P:=fun us=>bindArgs fd ⟨a0::a1::a2::us,[]⟩=pure (ns.zip (a0::a1::a2::us))) (fun a3=>x_d (P:=fun us=>bindArgs fd ⟨a0::a1::a2::a3::us,[]⟩=pure (ns.zip (a0::a1::a2::a3::us))) (fun a4=>l_nil (h a0 a1 a2 a3 a4)))))) us hl
theorem of_len6{fd:FuncData}{ns:List Str}(h:∀ a0 a1 a2 a3 a4 a5,bindArgs fd ⟨[a0,a1,a2,a3,a4,a5],[]⟩=pure (ns.zip [a0,a1,a2,a3,a4,a5])):∀ us:List Value,us.length=6->bindArgs fd ⟨us,[]⟩=pure (ns.zip us):=fun us hl=>by
 exact x_d (P:=fun us=>bindArgs fd ⟨us,[]⟩=pure (ns.zip (us))) (fun a0=>x_d (P:=fun us=>bindArgs fd ⟨a0::us,[]⟩=pure (ns.zip (a0::us))) (fun a1=>x_d (P:=fun us=>bindArgs fd ⟨a0::a1::us,[]⟩=pure (ns.zip (a0::a1::us))) (fun a2=>x_d (P:=fun us=>bindArgs fd ⟨a0::a1::a2::us,[]⟩=pure (ns.zip (a0::a1::a2::us))) (fun a3=>x_d (P:=fun us=>bindArgs fd ⟨a0::a1::a2::a3::us,[]⟩=pure (ns.zip (a0::a1::a2::a3::us))) (fun a4=>x_d (P:=fun us=>bindArgs fd ⟨a0::a1::a2::a3::a4::us,[]⟩=pure (ns.zip (a0::a1::a2::a3::a4::us))) (fun a5=>l_nil (h a0 a1 a2 a3 a4 a5))))))) us hl
theorem all_mk{w:World}{K:PySem.W.Frag}{h:Heap}{mg:Str->Option Value}{fa:Addr}(X:K.In h)(G:h.Ns mainGlobals mg)(hfa:mg "law" = some (.ref fa))
  {f0 f1 f2 f3 f4 f5 f6 f7 f8 f9 f10 f11 f12 f13 f14 f15 f16 f17 f18 f19 f20 f21 f22 f23 f24:Addr} {od0 an0 od1 an1 od2 an2 od3 an3 od4 an4 od5 an5 od6 an6 od7 an7 od8 an8 od9 an9 od10 an10 od11 an11 od12 an12 od13 an13 od14 an14 od15 an15 od16 an16 od17 an17 od18 an18 od19 an19 od20 an20 od21 an21 od22 an22 od23 an23 od24 an24:Option Addr} {sl0 sl1 sl2 sl3 sl4 sl5 sl6 sl7 sl8 sl9 sl10 sl11 sl12 sl13 sl14 sl15 sl16 sl17 sl18 sl19 sl20 sl21 sl22 sl23 sl24:Array (Option Value)} {oc0 kV0 dc0 pm0 cd0 ct0 oc1 kV1 dc1 pm1 cd1 ct1 oc2 kV2 dc2 pm2 cd2 ct2 oc3 kV3 dc3 pm3 cd3 ct3 oc4 kV4 dc4 pm4 cd4 ct4 oc5 kV5 dc5 pm5 cd5 ct5 oc6 kV6 dc6 pm6 cd6 ct6 oc7 kV7 dc7 pm7 cd7 ct7 oc8 kV8 dc8 pm8 cd8 ct8 oc9 kV9 dc9 pm9 cd9 ct9 oc10 kV10 dc10 pm10 cd10 ct10 oc11 kV11 dc11 pm11 cd11 ct11 oc12 kV12 dc12 pm12 cd12 ct12 oc13 kV13 dc13 pm13 cd13 ct13 oc14 kV14 dc14 pm14 cd14 ct14 oc15 kV15 dc15 pm15 cd15 ct15 oc16 kV16 dc16 pm16 cd16 ct16 oc17 kV17 dc17 pm17 cd17 ct17 oc18 kV18 dc18 pm18 cd18 ct18 oc19 kV19 dc19 pm19 cd19 ct19 oc20 kV20 dc20 pm20 cd20 ct20 oc21 kV21 dc21 pm21 cd21 ct21 oc22 kV22 dc22 pm22 cd22 ct22 oc23 kV23 dc23 pm23 cd23 ct23 oc24 kV24 dc24 pm24 cd24 ct24:Value}
  (a0:PySem.W.nsIn K mainGlobals "sayings_in" = some (some (.ref f0))) (l0:K.lookup f0=some ⟨oc0,od0,.func (PySem.W.fnOf "sayings_in" "sayings_in" (z_q y_l) (z_m y_l) (z_h y_l) .none kV0 dc0 pm0 an0 cd0 ct0),sl0⟩) (c0:PySem.W.codeIn K cd0 "sayings_in" = true) (k0:PySem.W.keepIn K (.ref f0)=true)
  (a1:PySem.W.nsIn K mainGlobals "spread" = some (some (.ref f1))) (l1:K.lookup f1=some ⟨oc1,od1,.func (PySem.W.fnOf "spread" "spread" (z_q s_spread) (z_m s_spread) (z_h s_spread) .none kV1 dc1 pm1 an1 cd1 ct1),sl1⟩) (c1:PySem.W.codeIn K cd1 "spread" = true) (k1:PySem.W.keepIn K (.ref f1)=true)
  (a2:PySem.W.nsIn K mainGlobals "brings_rows" = some (some (.ref f2))) (l2:K.lookup f2=some ⟨oc2,od2,.func (PySem.W.fnOf "brings_rows" "brings_rows" (z_q y_i) (z_m y_i) (z_h y_i) .none kV2 dc2 pm2 an2 cd2 ct2),sl2⟩) (c2:PySem.W.codeIn K cd2 "brings_rows" = true) (k2:PySem.W.keepIn K (.ref f2)=true)
  (a3:PySem.W.nsIn K mainGlobals "rows_of" = some (some (.ref f3))) (l3:K.lookup f3=some ⟨oc3,od3,.func (PySem.W.fnOf "rows_of" "rows_of" (z_q x_m) (z_m x_m) (z_h x_m) .none kV3 dc3 pm3 an3 cd3 ct3),sl3⟩) (c3:PySem.W.codeIn K cd3 "rows_of" = true) (k3:PySem.W.keepIn K (.ref f3)=true)
  (a4:PySem.W.nsIn K mainGlobals "rows_of_use" = some (some (.ref f4))) (l4:K.lookup f4=some ⟨oc4,od4,.func (PySem.W.fnOf "rows_of_use" "rows_of_use" (z_q y_j) (z_m y_j) (z_h y_j) .none kV4 dc4 pm4 an4 cd4 ct4),sl4⟩) (c4:PySem.W.codeIn K cd4 "rows_of_use" = true) (k4:PySem.W.keepIn K (.ref f4)=true)
  (a5:PySem.W.nsIn K mainGlobals "fronts_of" = some (some (.ref f5))) (l5:K.lookup f5=some ⟨oc5,od5,.func (PySem.W.fnOf "fronts_of" "fronts_of" (z_q y_r) (z_m y_r) (z_h y_r) .none kV5 dc5 pm5 an5 cd5 ct5),sl5⟩) (c5:PySem.W.codeIn K cd5 "fronts_of" = true) (k5:PySem.W.keepIn K (.ref f5)=true)
  (a6:PySem.W.nsIn K mainGlobals "renamed" = some (some (.ref f6))) (l6:K.lookup f6=some ⟨oc6,od6,.func (PySem.W.fnOf "renamed" "renamed" (z_q x_l) (z_m x_l) (z_h x_l) .none kV6 dc6 pm6 an6 cd6 ct6),sl6⟩) (c6:PySem.W.codeIn K cd6 "renamed" = true) (k6:PySem.W.keepIn K (.ref f6)=true)
  (a7:PySem.W.nsIn K mainGlobals "_law_bag" = some (some (.ref f7))) (l7:K.lookup f7=some ⟨oc7,od7,.func (PySem.W.fnOf "_law_bag" "_law_bag" (z_q s_L_bag) (z_m s_L_bag) (z_h s_L_bag) .none kV7 dc7 pm7 an7 cd7 ct7),sl7⟩) (c7:PySem.W.codeIn K cd7 "_law_bag" = true) (k7:PySem.W.keepIn K (.ref f7)=true)
  (a8:PySem.W.nsIn K mainGlobals "_law_take" = some (some (.ref f8))) (l8:K.lookup f8=some ⟨oc8,od8,.func (PySem.W.fnOf "_law_take" "_law_take" (z_q s_L_take) (z_m s_L_take) (z_h s_L_take) .none kV8 dc8 pm8 an8 cd8 ct8),sl8⟩) (c8:PySem.W.codeIn K cd8 "_law_take" = true) (k8:PySem.W.keepIn K (.ref f8)=true)
  (a9:PySem.W.nsIn K mainGlobals "_law_pool" = some (some (.ref f9))) (l9:K.lookup f9=some ⟨oc9,od9,.func (PySem.W.fnOf "_law_pool" "_law_pool" (z_q s_L_pool) (z_m s_L_pool) (z_h s_L_pool) .none kV9 dc9 pm9 an9 cd9 ct9),sl9⟩) (c9:PySem.W.codeIn K cd9 "_law_pool" = true) (k9:PySem.W.keepIn K (.ref f9)=true)
  (a10:PySem.W.nsIn K mainGlobals "_law_rooms" = some (some (.ref f10))) (l10:K.lookup f10=some ⟨oc10,od10,.func (PySem.W.fnOf "_law_rooms" "_law_rooms" (z_q x_i) (z_m x_i) (z_h x_i) .none kV10 dc10 pm10 an10 cd10 ct10),sl10⟩) (c10:PySem.W.codeIn K cd10 "_law_rooms" = true) (k10:PySem.W.keepIn K (.ref f10)=true)
  (a11:PySem.W.nsIn K mainGlobals "_law_leaf" = some (some (.ref f11))) (l11:K.lookup f11=some ⟨oc11,od11,.func (PySem.W.fnOf "_law_leaf" "_law_leaf" (z_q s_L_leaf) (z_m s_L_leaf) (z_h s_L_leaf) .none kV11 dc11 pm11 an11 cd11 ct11),sl11⟩) (c11:PySem.W.codeIn K cd11 "_law_leaf" = true) (k11:PySem.W.keepIn K (.ref f11)=true)
  (a12:PySem.W.nsIn K mainGlobals "_law_wants" = some (some (.ref f12))) (l12:K.lookup f12=some ⟨oc12,od12,.func (PySem.W.fnOf "_law_wants" "_law_wants" (z_q x_k) (z_m x_k) (z_h x_k) .none kV12 dc12 pm12 an12 cd12 ct12),sl12⟩) (c12:PySem.W.codeIn K cd12 "_law_wants" = true) (k12:PySem.W.keepIn K (.ref f12)=true)
  (a13:PySem.W.nsIn K mainGlobals "_law_typed" = some (some (.ref f13))) (l13:K.lookup f13=some ⟨oc13,od13,.func (PySem.W.fnOf "_law_typed" "_law_typed" (z_q x_j) (z_m x_j) (z_h x_j) .none kV13 dc13 pm13 an13 cd13 ct13),sl13⟩) (c13:PySem.W.codeIn K cd13 "_law_typed" = true) (k13:PySem.W.keepIn K (.ref f13)=true)
  (a14:PySem.W.nsIn K mainGlobals "_law_count" = some (some (.ref f14))) (l14:K.lookup f14=some ⟨oc14,od14,.func (PySem.W.fnOf "_law_count" "_law_count" (z_q x_h) (z_m x_h) (z_h x_h) .none kV14 dc14 pm14 an14 cd14 ct14),sl14⟩) (c14:PySem.W.codeIn K cd14 "_law_count" = true) (k14:PySem.W.keepIn K (.ref f14)=true)
  (a15:PySem.W.nsIn K mainGlobals "_law_cost" = some (some (.ref f15))) (l15:K.lookup f15=some ⟨oc15,od15,.func (PySem.W.fnOf "_law_cost" "_law_cost" (z_q s_L_cost) (z_m s_L_cost) (z_h s_L_cost) .none kV15 dc15 pm15 an15 cd15 ct15),sl15⟩) (c15:PySem.W.codeIn K cd15 "_law_cost" = true) (k15:PySem.W.keepIn K (.ref f15)=true)
  (a16:PySem.W.nsIn K mainGlobals "_law_use" = some (some (.ref f16))) (l16:K.lookup f16=some ⟨oc16,od16,.func (PySem.W.fnOf "_law_use" "_law_use" (z_q s_L_use) (z_m s_L_use) (z_h s_L_use) .none kV16 dc16 pm16 an16 cd16 ct16),sl16⟩) (c16:PySem.W.codeIn K cd16 "_law_use" = true) (k16:PySem.W.keepIn K (.ref f16)=true)
  (a17:PySem.W.nsIn K mainGlobals "_law_rows" = some (some (.ref f17))) (l17:K.lookup f17=some ⟨oc17,od17,.func (PySem.W.fnOf "_law_rows" "_law_rows" (z_q s_L_rows) (z_m s_L_rows) (z_h s_L_rows) .none kV17 dc17 pm17 an17 cd17 ct17),sl17⟩) (c17:PySem.W.codeIn K cd17 "_law_rows" = true) (k17:PySem.W.keepIn K (.ref f17)=true)
  (a18:PySem.W.nsIn K mainGlobals "_law_part" = some (some (.ref f18))) (l18:K.lookup f18=some ⟨oc18,od18,.func (PySem.W.fnOf "_law_part" "_law_part" (z_q s_L_part) (z_m s_L_part) (z_h s_L_part) .none kV18 dc18 pm18 an18 cd18 ct18),sl18⟩) (c18:PySem.W.codeIn K cd18 "_law_part" = true) (k18:PySem.W.keepIn K (.ref f18)=true)
  (a19:PySem.W.nsIn K mainGlobals "_law_plan" = some (some (.ref f19))) (l19:K.lookup f19=some ⟨oc19,od19,.func (PySem.W.fnOf "_law_plan" "_law_plan" (z_q s_L_plan) (z_m s_L_plan) (z_h s_L_plan) .none kV19 dc19 pm19 an19 cd19 ct19),sl19⟩) (c19:PySem.W.codeIn K cd19 "_law_plan" = true) (k19:PySem.W.keepIn K (.ref f19)=true)
  (a20:PySem.W.nsIn K mainGlobals "_law_headed" = some (some (.ref f20))) (l20:K.lookup f20=some ⟨oc20,od20,.func (PySem.W.fnOf "_law_headed" "_law_headed" (z_q y_y) (z_m y_y) (z_h y_y) .none kV20 dc20 pm20 an20 cd20 ct20),sl20⟩) (c20:PySem.W.codeIn K cd20 "_law_headed" = true) (k20:PySem.W.keepIn K (.ref f20)=true)
  (a21:PySem.W.nsIn K mainGlobals "_law_same" = some (some (.ref f21))) (l21:K.lookup f21=some ⟨oc21,od21,.func (PySem.W.fnOf "_law_same" "_law_same" (z_q s_L_same) (z_m s_L_same) (z_h s_L_same) .none kV21 dc21 pm21 an21 cd21 ct21),sl21⟩) (c21:PySem.W.codeIn K cd21 "_law_same" = true) (k21:PySem.W.keepIn K (.ref f21)=true)
  (a22:PySem.W.nsIn K mainGlobals "_law_copies" = some (some (.ref f22))) (l22:K.lookup f22=some ⟨oc22,od22,.func (PySem.W.fnOf "_law_copies" "_law_copies" (z_q y_x) (z_m y_x) (z_h y_x) .none kV22 dc22 pm22 an22 cd22 ct22),sl22⟩) (c22:PySem.W.codeIn K cd22 "_law_copies" = true) (k22:PySem.W.keepIn K (.ref f22)=true)
  (a23:PySem.W.nsIn K mainGlobals "_law_spread" = some (some (.ref f23))) (l23:K.lookup f23=some ⟨oc23,od23,.func (PySem.W.fnOf "_law_spread" "_law_spread" (z_q y_z) (z_m y_z) (z_h y_z) .none kV23 dc23 pm23 an23 cd23 ct23),sl23⟩) (c23:PySem.W.codeIn K cd23 "_law_spread" = true) (k23:PySem.W.keepIn K (.ref f23)=true)
  (a24:PySem.W.nsIn K mainGlobals "law" = some (some (.ref f24))) (l24:K.lookup f24=some ⟨oc24,od24,.func (PySem.W.fnOf "law" "law" (z_q s_law) (z_m s_law) (z_h s_law) .none kV24 dc24 pm24 an24 cd24 ct24),sl24⟩) (c24:PySem.W.codeIn K cd24 "law" = true) (k24:PySem.W.keepIn K (.ref f24)=true)
  (z0:PySem.W.nsIn K mainGlobals "abs" = some none)
  (z1:PySem.W.nsIn K mainGlobals "all" = some none)
  (z2:PySem.W.nsIn K mainGlobals "any" = some none)
  (z3:PySem.W.nsIn K mainGlobals "bool" = some none)
  (z4:PySem.W.nsIn K mainGlobals "dict" = some none)
  (z5:PySem.W.nsIn K mainGlobals "int" = some none)
  (z6:PySem.W.nsIn K mainGlobals "isinstance" = some none)
  (z7:PySem.W.nsIn K mainGlobals "len" = some none)
  (z8:PySem.W.nsIn K mainGlobals "list" = some none)
  (z9:PySem.W.nsIn K mainGlobals "max" = some none)
  (z10:PySem.W.nsIn K mainGlobals "min" = some none)
  (z11:PySem.W.nsIn K mainGlobals "range" = some none)
  (z12:PySem.W.nsIn K mainGlobals "set" = some none)
  (z13:PySem.W.nsIn K mainGlobals "str" = some none)
  (z14:PySem.W.nsIn K mainGlobals "sum" = some none)
  (z15:PySem.W.nsIn K mainGlobals "tuple" = some none)
  (z16:PySem.W.nsIn K mainGlobals "zip" = some none)
  {d_FORMS:Addr} (g_FORMS:PySem.W.nsIn K mainGlobals "FORMS" = some (some (.ref d_FORMS)))
  {es:Array DictEntry} {n_F:Nat} (l_FORMS:K.lookup d_FORMS=some ⟨.type "dict",none,.dict es n_F,#[]⟩) (kF:PySem.W.KeysLit w.params es.toList) (lo_F:(d_FORMS == sysModules)=false) {h0 h1 h2 h3 h4 h5 h6 h7 h8 h9 h10 h11 h12 h13 h14 h15:Int} {t0 t1 t2 t3 t4 t5 t6 t7 t8 t9 t10 t11 t12 t13 t14 t15:Tok} {p0 p1 p2 p3 p4 p5 p6 p7 p8 p9 p10 p11 p12 p13 p14 p15:Addr} (eF:es.toList=[⟨h0,.str "wire" t0,.ref p0⟩,⟨h1,.str "number" t1,.ref p1⟩,⟨h2,.str "not" t2,.ref p2⟩,⟨h3,.str "and" t3,.ref p3⟩,⟨h4,.str "or" t4,.ref p4⟩,⟨h5,.str "odd" t5,.ref p5⟩,⟨h6,.str "sum" t6,.ref p6⟩,⟨h7,.str "less" t7,.ref p7⟩,⟨h8,.str "under" t8,.ref p8⟩,⟨h9,.str "same" t9,.ref p9⟩,⟨h10,.str "choice" t10,.ref p10⟩,⟨h11,.str "up" t11,.ref p11⟩,⟨h12,.str "down" t12,.ref p12⟩,⟨h13,.str "join" t13,.ref p13⟩,⟨h14,.str "cut" t14,.ref p14⟩,⟨h15,.str "table" t15,.ref p15⟩]) {uF0:Option Addr} {nF0:Nat} {wF0:Array (Option Value)} {xF0 yF0:Tok} (lF0:K.lookup p0=some ⟨.type "tuple",uF0,.seq #[.int 2 xF0,.int 2 yF0] nF0,wF0⟩) {uF1:Option Addr} {nF1:Nat} {wF1:Array (Option Value)} {xF1 yF1:Tok} (lF1:K.lookup p1=some ⟨.type "tuple",uF1,.seq #[.int 3 xF1,.int 3 yF1] nF1,wF1⟩) {uF2:Option Addr} {nF2:Nat} {wF2:Array (Option Value)} {xF2 yF2:Tok} (lF2:K.lookup p2=some ⟨.type "tuple",uF2,.seq #[.int 2 xF2,.int 1 yF2] nF2,wF2⟩) {uF3:Option Addr} {nF3:Nat} {wF3:Array (Option Value)} {xF3 yF3:Tok} (lF3:K.lookup p3=some ⟨.type "tuple",uF3,.seq #[.int 3 xF3,.int 1 yF3] nF3,wF3⟩) {uF4:Option Addr} {nF4:Nat} {wF4:Array (Option Value)} {xF4 yF4:Tok} (lF4:K.lookup p4=some ⟨.type "tuple",uF4,.seq #[.int 3 xF4,.int 1 yF4] nF4,wF4⟩) {uF5:Option Addr} {nF5:Nat} {wF5:Array (Option Value)} {xF5 yF5:Tok} (lF5:K.lookup p5=some ⟨.type "tuple",uF5,.seq #[.int 3 xF5,.int 1 yF5] nF5,wF5⟩) {uF6:Option Addr} {nF6:Nat} {wF6:Array (Option Value)} {xF6 yF6:Tok} (lF6:K.lookup p6=some ⟨.type "tuple",uF6,.seq #[.int 3 xF6,.int 1 yF6] nF6,wF6⟩) {uF7:Option Addr} {nF7:Nat} {wF7:Array (Option Value)} {xF7 yF7:Tok} (lF7:K.lookup p7=some ⟨.type "tuple",uF7,.seq #[.int 3 xF7,.int 1 yF7] nF7,wF7⟩) {uF8:Option Addr} {nF8:Nat} {wF8:Array (Option Value)} {xF8 yF8:Tok} (lF8:K.lookup p8=some ⟨.type "tuple",uF8,.seq #[.int 3 xF8,.int 1 yF8] nF8,wF8⟩) {uF9:Option Addr} {nF9:Nat} {wF9:Array (Option Value)} {xF9 yF9:Tok} (lF9:K.lookup p9=some ⟨.type "tuple",uF9,.seq #[.int 3 xF9,.int 1 yF9] nF9,wF9⟩) {uF10:Option Addr} {nF10:Nat} {wF10:Array (Option Value)} {xF10 yF10:Tok} (lF10:K.lookup p10=some ⟨.type "tuple",uF10,.seq #[.int 4 xF10,.int 1 yF10] nF10,wF10⟩) {uF11:Option Addr} {nF11:Nat} {wF11:Array (Option Value)} {xF11 yF11:Tok} (lF11:K.lookup p11=some ⟨.type "tuple",uF11,.seq #[.int 3 xF11,.int 2 yF11] nF11,wF11⟩) {uF12:Option Addr} {nF12:Nat} {wF12:Array (Option Value)} {xF12 yF12:Tok} (lF12:K.lookup p12=some ⟨.type "tuple",uF12,.seq #[.int 3 xF12,.int 2 yF12] nF12,wF12⟩) {uF13:Option Addr} {nF13:Nat} {wF13:Array (Option Value)} {xF13 yF13:Tok} (lF13:K.lookup p13=some ⟨.type "tuple",uF13,.seq #[.int 3 xF13,.int 1 yF13] nF13,wF13⟩) {uF14:Option Addr} {nF14:Nat} {wF14:Array (Option Value)} {xF14 yF14:Tok} (lF14:K.lookup p14=some ⟨.type "tuple",uF14,.seq #[.int 4 xF14,.int 3 yF14] nF14,wF14⟩) {uF15:Option Addr} {nF15:Nat} {wF15:Array (Option Value)} {xF15 yF15:Tok} (lF15:K.lookup p15=some ⟨.type "tuple",uF15,.seq #[.int 4 xF15,.int 3 yF15] nF15,wF15⟩)
  : ∃ A:Ad,A.a_law=fa/\(∀ (s:Shared) (v:Value),BindsTo s A.d_law ⟨[v],[]⟩ [("_law_script",v)])/\Tx w K mg A:=by
 have e:=hfa.symm.trans (PySem.W.mg_of X G a24)
 cases e
 have F0:=y_t (st:=y_l) l0 c0 k0
 have F1:=y_t (st:=s_spread) l1 c1 k1
 have F2:=y_t (st:=y_i) l2 c2 k2
 have F3:=y_t (st:=x_m) l3 c3 k3
 have F4:=y_t (st:=y_j) l4 c4 k4
 have F5:=y_t (st:=y_r) l5 c5 k5
 have F6:=y_t (st:=x_l) l6 c6 k6
 have F7:=y_t (st:=s_L_bag) l7 c7 k7
 have F8:=y_t (st:=s_L_take) l8 c8 k8
 have F9:=y_t (st:=s_L_pool) l9 c9 k9
 have F10:=y_t (st:=x_i) l10 c10 k10
 have F11:=y_t (st:=s_L_leaf) l11 c11 k11
 have F12:=y_t (st:=x_k) l12 c12 k12
 have F13:=y_t (st:=x_j) l13 c13 k13
 have F14:=y_t (st:=x_h) l14 c14 k14
 have F15:=y_t (st:=s_L_cost) l15 c15 k15
 have F16:=y_t (st:=s_L_use) l16 c16 k16
 have F17:=y_t (st:=s_L_rows) l17 c17 k17
 have F18:=y_t (st:=s_L_part) l18 c18 k18
 have F19:=y_t (st:=s_L_plan) l19 c19 k19
 have F20:=y_t (st:=y_y) l20 c20 k20
 have F21:=y_t (st:=s_L_same) l21 c21 k21
 have F22:=y_t (st:=y_x) l22 c22 k22
 have F23:=y_t (st:=y_z) l23 c23 k23
 have F24:=y_t (st:=s_law) l24 c24 k24
 refine ⟨⟨f0,PySem.W.fnOf "sayings_in" "sayings_in" (z_q y_l) (z_m y_l) (z_h y_l) .none kV0 dc0 pm0 an0 cd0 ct0,f1,PySem.W.fnOf "spread" "spread" (z_q s_spread) (z_m s_spread) (z_h s_spread) .none kV1 dc1 pm1 an1 cd1 ct1,f2,PySem.W.fnOf "brings_rows" "brings_rows" (z_q y_i) (z_m y_i) (z_h y_i) .none kV2 dc2 pm2 an2 cd2 ct2,f3,PySem.W.fnOf "rows_of" "rows_of" (z_q x_m) (z_m x_m) (z_h x_m) .none kV3 dc3 pm3 an3 cd3 ct3,f4,PySem.W.fnOf "rows_of_use" "rows_of_use" (z_q y_j) (z_m y_j) (z_h y_j) .none kV4 dc4 pm4 an4 cd4 ct4,f5,PySem.W.fnOf "fronts_of" "fronts_of" (z_q y_r) (z_m y_r) (z_h y_r) .none kV5 dc5 pm5 an5 cd5 ct5,f6,PySem.W.fnOf "renamed" "renamed" (z_q x_l) (z_m x_l) (z_h x_l) .none kV6 dc6 pm6 an6 cd6 ct6,f7,PySem.W.fnOf "_law_bag" "_law_bag" (z_q s_L_bag) (z_m s_L_bag) (z_h s_L_bag) .none kV7 dc7 pm7 an7 cd7 ct7,f8,PySem.W.fnOf "_law_take" "_law_take" (z_q s_L_take) (z_m s_L_take) (z_h s_L_take) .none kV8 dc8 pm8 an8 cd8 ct8,f9,PySem.W.fnOf "_law_pool" "_law_pool" (z_q s_L_pool) (z_m s_L_pool) (z_h s_L_pool) .none kV9 dc9 pm9 an9 cd9 ct9,f10,PySem.W.fnOf "_law_rooms" "_law_rooms" (z_q x_i) (z_m x_i) (z_h x_i) .none kV10 dc10 pm10 an10 cd10 ct10,f11,PySem.W.fnOf "_law_leaf" "_law_leaf" (z_q s_L_leaf) (z_m s_L_leaf) (z_h s_L_leaf) .none kV11 dc11 pm11 an11 cd11 ct11,f12,PySem.W.fnOf "_law_wants" "_law_wants" (z_q x_k) (z_m x_k) (z_h x_k) .none kV12 dc12 pm12 an12 cd12 ct12,f13,PySem.W.fnOf "_law_typed" "_law_typed" (z_q x_j) (z_m x_j) (z_h x_j) .none kV13 dc13 pm13 an13 cd13 ct13,f14,PySem.W.fnOf "_law_count" "_law_count" (z_q x_h) (z_m x_h) (z_h x_h) .none kV14 dc14 pm14 an14 cd14 ct14,f15,PySem.W.fnOf "_law_cost" "_law_cost" (z_q s_L_cost) (z_m s_L_cost) (z_h s_L_cost) .none kV15 dc15 pm15 an15 cd15 ct15,f16,PySem.W.fnOf "_law_use" "_law_use" (z_q s_L_use) (z_m s_L_use) (z_h s_L_use) .none kV16 dc16 pm16 an16 cd16 ct16,f17,PySem.W.fnOf "_law_rows" "_law_rows" (z_q s_L_rows) (z_m s_L_rows) (z_h s_L_rows) .none kV17 dc17 pm17 an17 cd17 ct17,f18,PySem.W.fnOf "_law_part" "_law_part" (z_q s_L_part) (z_m s_L_part) (z_h s_L_part) .none kV18 dc18 pm18 an18 cd18 ct18,f19,PySem.W.fnOf "_law_plan" "_law_plan" (z_q s_L_plan) (z_m s_L_plan) (z_h s_L_plan) .none kV19 dc19 pm19 an19 cd19 ct19,f20,PySem.W.fnOf "_law_headed" "_law_headed" (z_q y_y) (z_m y_y) (z_h y_y) .none kV20 dc20 pm20 an20 cd20 ct20,f21,PySem.W.fnOf "_law_same" "_law_same" (z_q s_L_same) (z_m s_L_same) (z_h s_L_same) .none kV21 dc21 pm21 an21 cd21 ct21,f22,PySem.W.fnOf "_law_copies" "_law_copies" (z_q y_x) (z_m y_x) (z_h y_x) .none kV22 dc22 pm22 an22 cd22 ct22,f23,PySem.W.fnOf "_law_spread" "_law_spread" (z_q y_z) (z_m y_z) (z_h y_z) .none kV23 dc23 pm23 an23 cd23 ct23,fa,PySem.W.fnOf "law" "law" (z_q s_law) (z_m s_law) (z_h s_law) .none kV24 dc24 pm24 an24 cd24 ct24,d_FORMS⟩,rfl,fun s v=>.of_eq rfl,?_⟩
 exact ⟨PySem.W.mg_none_of X G z0,PySem.W.mg_none_of X G z1,PySem.W.mg_none_of X G z2,PySem.W.mg_none_of X G z3,PySem.W.mg_none_of X G z4,PySem.W.mg_none_of X G z5,PySem.W.mg_none_of X G z6,PySem.W.mg_none_of X G z7,PySem.W.mg_none_of X G z8,PySem.W.mg_none_of X G z9,PySem.W.mg_none_of X G z10,PySem.W.mg_none_of X G z11,PySem.W.mg_none_of X G z12,PySem.W.mg_none_of X G z13,PySem.W.mg_none_of X G z14,PySem.W.mg_none_of X G z15,PySem.W.mg_none_of X G z16,PySem.W.mg_of X G g_FORMS,⟨[("wire",.ref p0),("number",.ref p1),("not",.ref p2),("and",.ref p3),("or",.ref p4),("odd",.ref p5),("sum",.ref p6),("less",.ref p7),("under",.ref p8),("same",.ref p9),("choice",.ref p10),("up",.ref p11),("down",.ref p12),("join",.ref p13),("cut",.ref p14),("table",.ref p15)],⟨⟨es,n_F,l_FORMS,kF,by rw [eF];repeat (first | exact .nil | refine .cons ⟨⟨_,rfl⟩,rfl⟩ ?_)⟩,lo_F⟩,fun z hz=>by
  simp only [words,List.mem_cons,List.not_mem_nil,or_false] at hz
  rcases hz with rfl | rfl | rfl | rfl | rfl | rfl | rfl | rfl | rfl | rfl | rfl | rfl | rfl | rfl | rfl | rfl
  ·exact ⟨p0,rfl,fun H=>.inr ⟨_,_,_,lF0,rfl,rfl,(by show 2<=sizeLine;decide),.cons ⟨_,rfl⟩ (.cons ⟨_,rfl⟩ .nil)⟩⟩
  ·exact ⟨p1,rfl,fun H=>.inr ⟨_,_,_,lF1,rfl,rfl,(by show 2<=sizeLine;decide),.cons ⟨_,rfl⟩ (.cons ⟨_,rfl⟩ .nil)⟩⟩
  ·exact ⟨p2,rfl,fun H=>.inr ⟨_,_,_,lF2,rfl,rfl,(by show 2<=sizeLine;decide),.cons ⟨_,rfl⟩ (.cons ⟨_,rfl⟩ .nil)⟩⟩
  ·exact ⟨p3,rfl,fun H=>.inr ⟨_,_,_,lF3,rfl,rfl,(by show 2<=sizeLine;decide),.cons ⟨_,rfl⟩ (.cons ⟨_,rfl⟩ .nil)⟩⟩
  ·exact ⟨p4,rfl,fun H=>.inr ⟨_,_,_,lF4,rfl,rfl,(by show 2<=sizeLine;decide),.cons ⟨_,rfl⟩ (.cons ⟨_,rfl⟩ .nil)⟩⟩
  ·exact ⟨p5,rfl,fun H=>.inr ⟨_,_,_,lF5,rfl,rfl,(by show 2<=sizeLine;decide),.cons ⟨_,rfl⟩ (.cons ⟨_,rfl⟩ .nil)⟩⟩
  ·exact ⟨p6,rfl,fun H=>.inr ⟨_,_,_,lF6,rfl,rfl,(by show 2<=sizeLine;decide),.cons ⟨_,rfl⟩ (.cons ⟨_,rfl⟩ .nil)⟩⟩
  ·exact ⟨p7,rfl,fun H=>.inr ⟨_,_,_,lF7,rfl,rfl,(by show 2<=sizeLine;decide),.cons ⟨_,rfl⟩ (.cons ⟨_,rfl⟩ .nil)⟩⟩
  ·exact ⟨p8,rfl,fun H=>.inr ⟨_,_,_,lF8,rfl,rfl,(by show 2<=sizeLine;decide),.cons ⟨_,rfl⟩ (.cons ⟨_,rfl⟩ .nil)⟩⟩
  ·exact ⟨p9,rfl,fun H=>.inr ⟨_,_,_,lF9,rfl,rfl,(by show 2<=sizeLine;decide),.cons ⟨_,rfl⟩ (.cons ⟨_,rfl⟩ .nil)⟩⟩
  ·exact ⟨p10,rfl,fun H=>.inr ⟨_,_,_,lF10,rfl,rfl,(by show 2<=sizeLine;decide),.cons ⟨_,rfl⟩ (.cons ⟨_,rfl⟩ .nil)⟩⟩
  ·exact ⟨p11,rfl,fun H=>.inr ⟨_,_,_,lF11,rfl,rfl,(by show 2<=sizeLine;decide),.cons ⟨_,rfl⟩ (.cons ⟨_,rfl⟩ .nil)⟩⟩
  ·exact ⟨p12,rfl,fun H=>.inr ⟨_,_,_,lF12,rfl,rfl,(by show 2<=sizeLine;decide),.cons ⟨_,rfl⟩ (.cons ⟨_,rfl⟩ .nil)⟩⟩
  ·exact ⟨p13,rfl,fun H=>.inr ⟨_,_,_,lF13,rfl,rfl,(by show 2<=sizeLine;decide),.cons ⟨_,rfl⟩ (.cons ⟨_,rfl⟩ .nil)⟩⟩
  ·exact ⟨p14,rfl,fun H=>.inr ⟨_,_,_,lF14,rfl,rfl,(by show 2<=sizeLine;decide),.cons ⟨_,rfl⟩ (.cons ⟨_,rfl⟩ .nil)⟩⟩
  ·exact ⟨p15,rfl,fun H=>.inr ⟨_,_,_,lF15,rfl,rfl,(by show 2<=sizeLine;decide),.cons ⟨_,rfl⟩ (.cons ⟨_,rfl⟩ .nil)⟩⟩⟩,F0,F0.binds fun _ _ _ _ _ _ us hl=>of_len1 (fun _=>rfl) us hl,PySem.W.mg_of X G a0,F1,F1.binds fun _ _ _ _ _ _ us hl=>of_len1 (fun _=>rfl) us hl,PySem.W.mg_of X G a1,F2,F2.binds fun _ _ _ _ _ _ us hl=>of_len2 (fun _ _=>rfl) us hl,PySem.W.mg_of X G a2,F3,F3.binds fun _ _ _ _ _ _ us hl=>of_len3 (fun _ _ _=>rfl) us hl,PySem.W.mg_of X G a3,F4,F4.binds fun _ _ _ _ _ _ us hl=>of_len3 (fun _ _ _=>rfl) us hl,PySem.W.mg_of X G a4,F5,F5.binds fun _ _ _ _ _ _ us hl=>of_len2 (fun _ _=>rfl) us hl,PySem.W.mg_of X G a5,F6,F6.binds fun _ _ _ _ _ _ us hl=>of_len2 (fun _ _=>rfl) us hl,PySem.W.mg_of X G a6,F7,F7.binds fun _ _ _ _ _ _ us hl=>of_len2 (fun _ _=>rfl) us hl,PySem.W.mg_of X G a7,F8,F8.binds fun _ _ _ _ _ _ us hl=>of_len2 (fun _ _=>rfl) us hl,PySem.W.mg_of X G a8,F9,F9.binds fun _ _ _ _ _ _ us hl=>of_len2 (fun _ _=>rfl) us hl,PySem.W.mg_of X G a9,F10,F10.binds fun _ _ _ _ _ _ us hl=>of_len3 (fun _ _ _=>rfl) us hl,PySem.W.mg_of X G a10,F11,F11.binds fun _ _ _ _ _ _ us hl=>of_len3 (fun _ _ _=>rfl) us hl,PySem.W.mg_of X G a11,F12,F12.binds fun _ _ _ _ _ _ us hl=>of_len3 (fun _ _ _=>rfl) us hl,PySem.W.mg_of X G a12,F13,F13.binds fun _ _ _ _ _ _ us hl=>of_len5 (fun _ _ _ _ _=>rfl) us hl,PySem.W.mg_of X G a13,F14,F14.binds fun _ _ _ _ _ _ us hl=>of_len1 (fun _=>rfl) us hl,PySem.W.mg_of X G a14,F15,F15.binds fun _ _ _ _ _ _ us hl=>of_len4 (fun _ _ _ _=>rfl) us hl,PySem.W.mg_of X G a15,F16,F16.binds fun _ _ _ _ _ _ us hl=>of_len6 (fun _ _ _ _ _ _=>rfl) us hl,PySem.W.mg_of X G a16,F17,F17.binds fun _ _ _ _ _ _ us hl=>of_len6 (fun _ _ _ _ _ _=>rfl) us hl,PySem.W.mg_of X G a17,F18,F18.binds fun _ _ _ _ _ _ us hl=>of_len5 (fun _ _ _ _ _=>rfl) us hl,PySem.W.mg_of X G a18,F19,F19.binds fun _ _ _ _ _ _ us hl=>of_len1 (fun _=>rfl) us hl,PySem.W.mg_of X G a19,F20,F20.binds fun _ _ _ _ _ _ us hl=>of_len2 (fun _ _=>rfl) us hl,PySem.W.mg_of X G a20,F21,F21.binds fun _ _ _ _ _ _ us hl=>of_len2 (fun _ _=>rfl) us hl,PySem.W.mg_of X G a21,F22,F22.binds fun _ _ _ _ _ _ us hl=>of_len2 (fun _ _=>rfl) us hl,PySem.W.mg_of X G a22,F23,F23.binds fun _ _ _ _ _ _ us hl=>of_len3 (fun _ _ _=>rfl) us hl,PySem.W.mg_of X G a23,F24,F24.binds fun _ _ _ _ _ _ us hl=>of_len1 (fun _=>rfl) us hl,PySem.W.mg_of X G a24⟩
theorem walk{l:PySem.W.OpenLaw}{q:Program}{loose:List Str}{XP:(Str->Option Value)->Heap->Prop}{YP:World->Heap->Prop}{d:DefRec}{K:Params->PySem.W.Frag}(hn:l.most=some 63)(hdf:d.params.defaults=[])(hnm:d.name = "law")
  (hY:∀ (w:World) (h:Heap),YP w h->(K w.params).In h)
  (F:∀ (w:World) (mg:Str->Option Value) (fa:Addr) (h:Heap),(K w.params).In h->h.Ns mainGlobals mg->mg "law" = some (.ref fa) ->
   ∃ A:Ad,A.a_law=fa/\(∀ (s:Shared) (v:Value),BindsTo s A.d_law ⟨[v],[]⟩ [("_law_script",v)])/\Tx w (K w.params) mg A) :
  PySem.W.WalkO q loose XP YP l.row.toRowW d [] (fun f vs=>PySem.call f vs):=by
 refine L2.walk_of (n:=63) (k:=18) (x := "_law_script") (CX:=fun _=>CX0) (sp:=fun w=>sp_law (K w.params)) hn (by decide) hdf ⟨rfl,by decide,by decide⟩ hY (fun w mg fa h k1 k2 k3=>?_) (fun _ _ a ns hl _ hS=>⟨a,ns,rfl,hS,hl,fun _=>rfl⟩) fun _ _ _ _ _ z=>z
 obtain ⟨A,rfl,hb,T⟩:=F w mg fa h k1 k2 (by rw [<-hnm];exact k3)
 exact ⟨A.d_law,hb,fun base _ _=>all_ok T⟩
abbrev hS(x:String)(t:Nat):Value:=.str (Str.ofString x) t
abbrev hE(P:Params)(x:String)(t:Nat)(v:Value):DictEntry:=⟨PyData.keyHash P (Str.ofString x),.str (Str.ofString x) t,v⟩
abbrev hF(n q:String)(st:Stmt)(df kd doc pm:Value)(an:Option Addr)(cd ct:Value):Obj:=⟨.type "function",none,.func (PySem.W.fnOf n q (z_q st) (z_m st) (z_h st) df kd doc pm an cd ct),#[]⟩
abbrev hC(n q:String)(t:Nat)(l a k:Int)(r1 r2:Nat)(x y:Value)(r3:Nat)(u:Int)(z:Nat):Obj:=⟨.type "code",none,.fields [hS n t,hS q (t+1),hS "/claim/cut.py" (t+2),.int l 0,.int a 0,.int 0 0,.int 0 0,.int k 0,.ref r1,.bool true,.int 181 0,.ref r2,.none,x,y,.ref r3,.int u 0,.int l 0,hS "/claim/cut.py" z].toArray,#[]⟩
def hK:Params->PySem.W.Frag:=fun P =>
 (nat_lit 2,⟨.none,none,.dict ([]).toArray 0,#[]⟩) ::
 (nat_lit 3,⟨(.type "dict"),none,.dict (hE P "__name__" 165 (hS "law_lampforge_k09_spread_copies" 308)::hE P "__doc__" 166 .none::hE P "__package__" 167 .none::hE P "__loader__" 168 (.builtin "__main__.__loader__#opaque")::hE P "__spec__" 169 .none::hE P "__annotations__" 170 (.ref 6)::hE P "__builtins__" 171 (.ref 4)::hE P "__file__" 173 (hS "/claim/cut.py" 172)::hE P "__cached__" 174 .none::hE P "FORMS" 251 (.ref 15)::hE P "sayings_in" 260 (.ref 38)::hE P "spread" 272 (.ref 45)::hE P "brings_rows" 278 (.ref 50)::hE P "rows_of" 289 (.ref 57)::hE P "rows_of_use" 295 (.ref 62)::hE P "fronts_of" 301 (.ref 67)::hE P "renamed" 307 (.ref 72)::hE P "_law_bag" 320 (.ref 79)::hE P "_law_take" 329 (.ref 86)::hE P "_law_pool" 335 (.ref 91)::hE P "_law_rooms" 348 (.ref 98)::hE P "_law_leaf" 354 (.ref 103)::hE P "_law_wants" 364 (.ref 110)::hE P "_law_typed" 370 (.ref 115)::hE P "_law_count" 376 (.ref 120)::hE P "_law_cost" 388 (.ref 127)::hE P "_law_use" 394 (.ref 132)::hE P "_law_rows" 413 (.ref 139)::hE P "_law_part" 419 (.ref 144)::hE P "_law_plan" 433 (.ref 151)::hE P "_law_headed" 443 (.ref 158)::hE P "_law_same" 449 (.ref 163)::hE P "_law_copies" 455 (.ref 168)::hE P "_law_spread" 461 (.ref 173)::hE P "law" 467 (.ref 178)::[]).toArray 35,#[]⟩) ::
 (nat_lit 15,⟨(.type "dict"),none,.dict (hE P "wire" 187 (.ref 16)::hE P "number" 191 (.ref 17)::hE P "not" 195 (.ref 18)::hE P "and" 199 (.ref 19)::hE P "or" 203 (.ref 20)::hE P "odd" 207 (.ref 21)::hE P "sum" 211 (.ref 22)::hE P "less" 215 (.ref 23)::hE P "under" 219 (.ref 24)::hE P "same" 223 (.ref 25)::hE P "choice" 227 (.ref 26)::hE P "up" 231 (.ref 27)::hE P "down" 235 (.ref 28)::hE P "join" 239 (.ref 29)::hE P "cut" 243 (.ref 30)::hE P "table" 247 (.ref 31)::[]).toArray 16,#[]⟩) ::
 (nat_lit 16,⟨(.type "tuple"),none,.seq [(.int 2 188),(.int 2 189)].toArray 0,#[]⟩) ::
 (nat_lit 17,⟨(.type "tuple"),none,.seq [(.int 3 192),(.int 3 193)].toArray 0,#[]⟩) ::
 (nat_lit 18,⟨(.type "tuple"),none,.seq [(.int 2 196),(.int 1 197)].toArray 0,#[]⟩) ::
 (nat_lit 19,⟨(.type "tuple"),none,.seq [(.int 3 200),(.int 1 201)].toArray 0,#[]⟩) ::
 (nat_lit 20,⟨(.type "tuple"),none,.seq [(.int 3 204),(.int 1 205)].toArray 0,#[]⟩) ::
 (nat_lit 21,⟨(.type "tuple"),none,.seq [(.int 3 208),(.int 1 209)].toArray 0,#[]⟩) ::
 (nat_lit 22,⟨(.type "tuple"),none,.seq [(.int 3 212),(.int 1 213)].toArray 0,#[]⟩) ::
 (nat_lit 23,⟨(.type "tuple"),none,.seq [(.int 3 216),(.int 1 217)].toArray 0,#[]⟩) ::
 (nat_lit 24,⟨(.type "tuple"),none,.seq [(.int 3 220),(.int 1 221)].toArray 0,#[]⟩) ::
 (nat_lit 25,⟨(.type "tuple"),none,.seq [(.int 3 224),(.int 1 225)].toArray 0,#[]⟩) ::
 (nat_lit 26,⟨(.type "tuple"),none,.seq [(.int 4 228),(.int 1 229)].toArray 0,#[]⟩) ::
 (nat_lit 27,⟨(.type "tuple"),none,.seq [(.int 3 232),(.int 2 233)].toArray 0,#[]⟩) ::
 (nat_lit 28,⟨(.type "tuple"),none,.seq [(.int 3 236),(.int 2 237)].toArray 0,#[]⟩) ::
 (nat_lit 29,⟨(.type "tuple"),none,.seq [(.int 3 240),(.int 1 241)].toArray 0,#[]⟩) ::
 (nat_lit 30,⟨(.type "tuple"),none,.seq [(.int 4 244),(.int 3 245)].toArray 0,#[]⟩) ::
 (nat_lit 31,⟨(.type "tuple"),none,.seq [(.int 4 248),(.int 3 249)].toArray 0,#[]⟩) ::
 (nat_lit 37,hC "sayings_in" "sayings_in" 254 3 1 3 32 33 (.ref 34) (.ref 35) 36 258 259) ::
 (nat_lit 38,hF "sayings_in" "sayings_in" y_l .none .none .none (hS "lampforge.sayings" 252) none (.ref 37) .none) ::
 (nat_lit 44,hC "spread" "spread" 263 6 1 3 39 40 (.ref 41) (.ref 42) 43 270 271) ::
 (nat_lit 45,hF "spread" "spread" s_spread .none .none .none (hS "lampforge.spread" 261) none (.ref 44) .none) ::
 (nat_lit 49,hC "brings_rows" "brings_rows" 273 13 2 3 46 47 .none .none 48 276 277) ::
 (nat_lit 50,hF "brings_rows" "brings_rows" y_i .none .none .none (hS "lampforge.spread" 261) none (.ref 49) .none) ::
 (nat_lit 56,hC "rows_of" "rows_of" 279 17 3 3 51 52 (.ref 53) (.ref 54) 55 287 288) ::
 (nat_lit 57,hF "rows_of" "rows_of" x_m .none .none .none (hS "lampforge.spread" 261) none (.ref 56) .none) ::
 (nat_lit 61,hC "rows_of_use" "rows_of_use" 290 25 3 3 58 59 .none .none 60 293 294) ::
 (nat_lit 62,hF "rows_of_use" "rows_of_use" y_j .none .none .none (hS "lampforge.spread" 261) none (.ref 61) .none) ::
 (nat_lit 66,hC "fronts_of" "fronts_of" 296 37 2 3 63 64 .none .none 65 299 300) ::
 (nat_lit 67,hF "fronts_of" "fronts_of" y_r .none .none .none (hS "lampforge.spread" 261) none (.ref 66) .none) ::
 (nat_lit 71,hC "renamed" "renamed" 302 42 2 3 68 69 .none .none 70 305 306) ::
 (nat_lit 72,hF "renamed" "renamed" x_l .none .none .none (hS "lampforge.spread" 261) none (.ref 71) .none) ::
 (nat_lit 78,hC "_law_bag" "_law_bag" 310 48 2 3 73 74 (.ref 75) (.ref 76) 77 318 319) ::
 (nat_lit 79,hF "_law_bag" "_law_bag" s_L_bag .none .none .none (hS "law_lampforge_k09_spread_copies" 308) none (.ref 78) .none) ::
 (nat_lit 85,hC "_law_take" "_law_take" 321 56 2 3 80 81 (.ref 82) (.ref 83) 84 327 328) ::
 (nat_lit 86,hF "_law_take" "_law_take" s_L_take .none .none .none (hS "law_lampforge_k09_spread_copies" 308) none (.ref 85) .none) ::
 (nat_lit 90,hC "_law_pool" "_law_pool" 330 63 2 3 87 88 .none .none 89 333 334) ::
 (nat_lit 91,hF "_law_pool" "_law_pool" s_L_pool .none .none .none (hS "law_lampforge_k09_spread_copies" 308) none (.ref 90) .none) ::
 (nat_lit 97,hC "_law_rooms" "_law_rooms" 336 72 3 3 92 93 (.ref 94) (.ref 95) 96 346 347) ::
 (nat_lit 98,hF "_law_rooms" "_law_rooms" x_i .none .none .none (hS "law_lampforge_k09_spread_copies" 308) none (.ref 97) .none) ::
 (nat_lit 102,hC "_law_leaf" "_law_leaf" 349 82 3 3 99 100 .none .none 101 352 353) ::
 (nat_lit 103,hF "_law_leaf" "_law_leaf" s_L_leaf .none .none .none (hS "law_lampforge_k09_spread_copies" 308) none (.ref 102) .none) ::
 (nat_lit 109,hC "_law_wants" "_law_wants" 355 91 3 3 104 105 (.ref 106) (.ref 107) 108 362 363) ::
 (nat_lit 110,hF "_law_wants" "_law_wants" x_k .none .none .none (hS "law_lampforge_k09_spread_copies" 308) none (.ref 109) .none) ::
 (nat_lit 114,hC "_law_typed" "_law_typed" 365 106 5 3 111 112 .none .none 113 368 369) ::
 (nat_lit 115,hF "_law_typed" "_law_typed" x_j .none .none .none (hS "law_lampforge_k09_spread_copies" 308) none (.ref 114) .none) ::
 (nat_lit 119,hC "_law_count" "_law_count" 371 124 1 3 116 117 .none .none 118 374 375) ::
 (nat_lit 120,hF "_law_count" "_law_count" x_h .none .none .none (hS "law_lampforge_k09_spread_copies" 308) none (.ref 119) .none) ::
 (nat_lit 126,hC "_law_cost" "_law_cost" 377 126 4 3 121 122 (.ref 123) (.ref 124) 125 386 387) ::
 (nat_lit 127,hF "_law_cost" "_law_cost" s_L_cost .none .none .none (hS "law_lampforge_k09_spread_copies" 308) none (.ref 126) .none) ::
 (nat_lit 131,hC "_law_use" "_law_use" 389 130 6 3 128 129 .none .none 130 392 393) ::
 (nat_lit 132,hF "_law_use" "_law_use" s_L_use .none .none .none (hS "law_lampforge_k09_spread_copies" 308) none (.ref 131) .none) ::
 (nat_lit 138,hC "_law_rows" "_law_rows" 395 149 6 3 133 134 (.ref 135) (.ref 136) 137 411 412) ::
 (nat_lit 139,hF "_law_rows" "_law_rows" s_L_rows .none .none .none (hS "law_lampforge_k09_spread_copies" 308) none (.ref 138) .none) ::
 (nat_lit 143,hC "_law_part" "_law_part" 414 165 5 3 140 141 .none .none 142 417 418) ::
 (nat_lit 144,hF "_law_part" "_law_part" s_L_part .none .none .none (hS "law_lampforge_k09_spread_copies" 308) none (.ref 143) .none) ::
 (nat_lit 150,hC "_law_plan" "_law_plan" 420 184 1 3 145 146 (.ref 147) (.ref 148) 149 431 432) ::
 (nat_lit 151,hF "_law_plan" "_law_plan" s_L_plan .none .none .none (hS "law_lampforge_k09_spread_copies" 308) none (.ref 150) .none) ::
 (nat_lit 157,hC "_law_headed" "_law_headed" 434 194 2 3 152 153 (.ref 154) (.ref 155) 156 441 442) ::
 (nat_lit 158,hF "_law_headed" "_law_headed" y_y .none .none .none (hS "law_lampforge_k09_spread_copies" 308) none (.ref 157) .none) ::
 (nat_lit 162,hC "_law_same" "_law_same" 444 203 2 3 159 160 .none .none 161 447 448) ::
 (nat_lit 163,hF "_law_same" "_law_same" s_L_same .none .none .none (hS "law_lampforge_k09_spread_copies" 308) none (.ref 162) .none) ::
 (nat_lit 167,hC "_law_copies" "_law_copies" 450 211 2 3 164 165 .none .none 166 453 454) ::
 (nat_lit 168,hF "_law_copies" "_law_copies" y_x .none .none .none (hS "law_lampforge_k09_spread_copies" 308) none (.ref 167) .none) ::
 (nat_lit 172,hC "_law_spread" "_law_spread" 456 215 3 3 169 170 .none .none 171 459 460) ::
 (nat_lit 173,hF "_law_spread" "_law_spread" y_z .none .none .none (hS "law_lampforge_k09_spread_copies" 308) none (.ref 172) .none) ::
 (nat_lit 177,hC "law" "law" 462 231 1 3 174 175 .none .none 176 465 466) ::
 (nat_lit 178,hF "law" "law" s_law .none .none .none (hS "law_lampforge_k09_spread_copies" 308) none (.ref 177) .none)::[]
def hA:List Addr:=nat_lit 2::nat_lit 3::nat_lit 15::nat_lit 16::nat_lit 17::nat_lit 18::nat_lit 19::nat_lit 20::nat_lit 21::nat_lit 22::nat_lit 23::nat_lit 24::nat_lit 25::nat_lit 26::nat_lit 27::nat_lit 28::nat_lit 29::nat_lit 30::nat_lit 31::nat_lit 37::nat_lit 38::nat_lit 44::nat_lit 45::nat_lit 49::nat_lit 50::nat_lit 56::nat_lit 57::nat_lit 61::nat_lit 62::nat_lit 66::nat_lit 67::nat_lit 71::nat_lit 72::nat_lit 78::nat_lit 79::nat_lit 85::nat_lit 86::nat_lit 90::nat_lit 91::nat_lit 97::nat_lit 98::nat_lit 102::nat_lit 103::nat_lit 109::nat_lit 110::nat_lit 114::nat_lit 115::nat_lit 119::nat_lit 120::nat_lit 126::nat_lit 127::nat_lit 131::nat_lit 132::nat_lit 138::nat_lit 139::nat_lit 143::nat_lit 144::nat_lit 150::nat_lit 151::nat_lit 157::nat_lit 158::nat_lit 162::nat_lit 163::nat_lit 167::nat_lit 168::nat_lit 172::nat_lit 173::nat_lit 177::nat_lit 178::[]
def hV:Program:={ PySem.Challenge.pw_lampforge_k09_spread_copies with main:={ PySem.Challenge.pw_lampforge_k09_spread_copies.main with body:=[top 0,top 2,top 4,top 5,top 6,top 7,top 8,top 9,top 11,top 12,top 13,top 14,top 15,top 16,top 17,top 18,top 19,top 20,top 21,top 22,top 23,top 24,top 25,top 26,top 27,top 28] } }
abbrev hL:List Str:=[Str.ofString "FORMS"]
theorem hQ:∀ P,hA=(hK P).map (·.1):=fun _=>by kernel_rfl
end K09
open PySem PySem.W PyProof.Rows
set_option maxRecDepth 100000 in
set_option maxHeartbeats 0 in
theorem PySem.Challenge.cw_lampforge_k09_spread_copies_holds : PySem.Challenge.rw_lampforge_k09_spread_copies.Holds := by
 w_on;o_law
 refine PySem.W.holds_open (q:=K09.hV) (loose:=K09.hL) (Xt:=fun s=>PySem.W.xlAt K09.hV [] s&&PySem.W.recOk (PySem.W.RowW.records PySem.Challenge.rw_lampforge_k09_spread_copies.row.toRowW) s) (XP:=PySem.W.XL K09.hV []) (Yf:=PySem.W.Hook.obs (PySem.W.kHook K09.hK K09.hA K09.hQ)) (Ya:=PySem.W.Hook.val (PySem.W.kHook K09.hK K09.hA K09.hQ)) (YP:=PySem.W.Hook.says (PySem.W.kHook K09.hK K09.hA K09.hQ)) (N:=2242) ?hl (PySem.W.Hook.of (PySem.W.kHook K09.hK K09.hA K09.hQ)) (PySem.W.Hook.keeps (PySem.W.kHook K09.hK K09.hA K09.hQ)) (fun s e=>PySem.W.xl_of s (Bool.and_eq_true_iff.mp e).1) PySem.W.XL.keeps (by rfl) (by rfl) (by rfl) (fun s e=>PySem.W.recFacts_of (Bool.and_eq_true_iff.mp e).2) (by rfl) (by first | assumption | decide +kernel) (by decide +kernel) ⟨rfl,rfl,rfl,rfl,rfl,by decide +kernel⟩ ?hw ?hc
 case hl=>exact PySem.W.LeftO.of_split "special-get-raises" (fun w=>by kernel_rfl)
 (case hw=>w_witness2)
 k_fill
 refine K09.walk (l:=PySem.Challenge.rw_lampforge_k09_spread_copies) rfl rfl rfl (fun w h Y=>PySem.W.kIn_of Y) ?F
 case F =>
  intro w mg fa h KX G hmg
  refine' K09.all_mk KX G hmg ?a0 ?l0 ?c0 ?k0 ?a1 ?l1 ?c1 ?k1 ?a2 ?l2 ?c2 ?k2 ?a3 ?l3 ?c3 ?k3 ?a4 ?l4 ?c4 ?k4 ?a5 ?l5 ?c5 ?k5 ?a6 ?l6 ?c6 ?k6 ?a7 ?l7 ?c7 ?k7 ?a8 ?l8 ?c8 ?k8 ?a9 ?l9 ?c9 ?k9 ?a10 ?l10 ?c10 ?k10 ?a11 ?l11 ?c11 ?k11 ?a12 ?l12 ?c12 ?k12 ?a13 ?l13 ?c13 ?k13 ?a14 ?l14 ?c14 ?k14 ?a15 ?l15 ?c15 ?k15 ?a16 ?l16 ?c16 ?k16 ?a17 ?l17 ?c17 ?k17 ?a18 ?l18 ?c18 ?k18 ?a19 ?l19 ?c19 ?k19 ?a20 ?l20 ?c20 ?k20 ?a21 ?l21 ?c21 ?k21 ?a22 ?l22 ?c22 ?k22 ?a23 ?l23 ?c23 ?k23 ?a24 ?l24 ?c24 ?k24 ?z0 ?z1 ?z2 ?z3 ?z4 ?z5 ?z6 ?z7 ?z8 ?z9 ?z10 ?z11 ?z12 ?z13 ?z14 ?z15 ?z16 ?g_FORMS ?l_FORMS ?kF ?lo_F ?eF ?lF0 ?lF1 ?lF2 ?lF3 ?lF4 ?lF5 ?lF6 ?lF7 ?lF8 ?lF9 ?lF10 ?lF11 ?lF12 ?lF13 ?lF14 ?lF15
  (case a0=>k_is)
  (case l0=>k_is)
  (case c0=>k_is)
  (case k0=>k_is)
  (case a1=>k_is)
  (case l1=>k_is)
  (case c1=>k_is)
  (case k1=>k_is)
  (case a2=>k_is)
  (case l2=>k_is)
  (case c2=>k_is)
  (case k2=>k_is)
  (case a3=>k_is)
  (case l3=>k_is)
  (case c3=>k_is)
  (case k3=>k_is)
  (case a4=>k_is)
  (case l4=>k_is)
  (case c4=>k_is)
  (case k4=>k_is)
  (case a5=>k_is)
  (case l5=>k_is)
  (case c5=>k_is)
  (case k5=>k_is)
  (case a6=>k_is)
  (case l6=>k_is)
  (case c6=>k_is)
  (case k6=>k_is)
  (case a7=>k_is)
  (case l7=>k_is)
  (case c7=>k_is)
  (case k7=>k_is)
  (case a8=>k_is)
  (case l8=>k_is)
  (case c8=>k_is)
  (case k8=>k_is)
  (case a9=>k_is)
  (case l9=>k_is)
  (case c9=>k_is)
  (case k9=>k_is)
  (case a10=>k_is)
  (case l10=>k_is)
  (case c10=>k_is)
  (case k10=>k_is)
  (case a11=>k_is)
  (case l11=>k_is)
  (case c11=>k_is)
  (case k11=>k_is)
  (case a12=>k_is)
  (case l12=>k_is)
  (case c12=>k_is)
  (case k12=>k_is)
  (case a13=>k_is)
  (case l13=>k_is)
  (case c13=>k_is)
  (case k13=>k_is)
  (case a14=>k_is)
  (case l14=>k_is)
  (case c14=>k_is)
  (case k14=>k_is)
  (case a15=>k_is)
  (case l15=>k_is)
  (case c15=>k_is)
  (case k15=>k_is)
  (case a16=>k_is)
  (case l16=>k_is)
  (case c16=>k_is)
  (case k16=>k_is)
  (case a17=>k_is)
  (case l17=>k_is)
  (case c17=>k_is)
  (case k17=>k_is)
  (case a18=>k_is)
  (case l18=>k_is)
  (case c18=>k_is)
  (case k18=>k_is)
  (case a19=>k_is)
  (case l19=>k_is)
  (case c19=>k_is)
  (case k19=>k_is)
  (case a20=>k_is)
  (case l20=>k_is)
  (case c20=>k_is)
  (case k20=>k_is)
  (case a21=>k_is)
  (case l21=>k_is)
  (case c21=>k_is)
  (case k21=>k_is)
  (case a22=>k_is)
  (case l22=>k_is)
  (case c22=>k_is)
  (case k22=>k_is)
  (case a23=>k_is)
  (case l23=>k_is)
  (case c23=>k_is)
  (case k23=>k_is)
  (case a24=>k_is)
  (case l24=>k_is)
  (case c24=>k_is)
  (case k24=>k_is)
  (case z0=>k_is)
  (case z1=>k_is)
  (case z2=>k_is)
  (case z3=>k_is)
  (case z4=>k_is)
  (case z5=>k_is)
  (case z6=>k_is)
  (case z7=>k_is)
  (case z8=>k_is)
  (case z9=>k_is)
  (case z10=>k_is)
  (case z11=>k_is)
  (case z12=>k_is)
  (case z13=>k_is)
  (case z14=>k_is)
  (case z15=>k_is)
  (case z16=>k_is)
  (case g_FORMS=>k_is)
  (case l_FORMS=>k_is)
  (case kF=>k_keys)
  (case lo_F=>decide)
  (case eF=>rfl)
  (case lF0=>k_is)
  (case lF1=>k_is)
  (case lF2=>k_is)
  (case lF3=>k_is)
  (case lF4=>k_is)
  (case lF5=>k_is)
  (case lF6=>k_is)
  (case lF7=>k_is)
  (case lF8=>k_is)
  (case lF9=>k_is)
  (case lF10=>k_is)
  (case lF11=>k_is)
  (case lF12=>k_is)
  (case lF13=>k_is)
  (case lF14=>k_is)
  (case lF15=>k_is)
