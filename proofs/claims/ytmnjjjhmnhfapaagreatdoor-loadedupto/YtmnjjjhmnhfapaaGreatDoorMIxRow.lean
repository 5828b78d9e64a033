import Derived.Laws.IdiomCopy
import Derived.Lib.Overlaps
import Derived.Lib.AppendZerosOnto
import Derived.Laws.NewBlocks
import Derived.Test.YtmnjjjhmnhfapaaGreatDoorMIxTurn
namespace Go.Proofs.YtmnjjjhmnhfapaaGreatDoor
set_option maxRecDepth 100000
set_option maxHeartbeats 4000000
namespace Tm
variable {α:Type}{a n m:Nat}
theorem qqq{L xs news:List α}(hx:L.take n=xs)(hxl:xs.length=n)(ha:a<=n)(hnl:news.length=m)(hL:n+m<=L.length) :
  (((L.take (a+m)++xs.drop a++L.drop (a+m+(xs.drop a).length)).take a)++news++((L.take (a+m)++xs.drop a++L.drop (a+m+(xs.drop a).length)).drop (a+news.length))).take (n+m)=xs.take a++news++xs.drop a:=by
 have h1:(L.take (a+m)).length=a+m:=by rw[List.length_take];omega
 have h2:(L.take (a+m)++xs.drop a++L.drop (a+m+(xs.drop a).length)).take a=xs.take a:=by
  rw[List.append_assoc,List.take_append_of_le_length (by omega),List.take_take,Nat.min_eq_left (by omega),<-hx,List.take_take,Nat.min_eq_left ha]
 have h3:(L.take (a+m)++xs.drop a++L.drop (a+m+(xs.drop a).length)).drop (a+news.length)=xs.drop a++L.drop (a+m+(xs.drop a).length):=by
  rw[List.append_assoc,hnl];exact List.drop_left' h1
 rw[h2,h3,<-List.append_assoc];exact List.take_left' (by simp;omega)
theorem qso{L xs news Z:List α}(hL:L=xs.take a++Z)(hxl:xs.length=n)(ha:a<=n)(hnl:news.length=m) :
  (((L.take a++news++L.drop (a+news.length)).take (a+m))++xs.drop a++((L.take a++news++L.drop (a+news.length)).drop (a+m+(xs.drop a).length))).take (n+m)=xs.take a++news++xs.drop a:=by
 have h0:(xs.take a).length=a:=by rw[List.length_take];omega
 have h1:L.take a=xs.take a:=by rw[hL];exact List.take_left' h0
 rw[h1];have h2:(xs.take a++news++L.drop (a+news.length)).take (a+m)=xs.take a++news:=List.take_left' (by rw[List.length_append,h0,hnl]);rw[h2];refine List.take_left' ?_;simp;omega
theorem quk{L xs:List α}(hx:L.take n=xs)(hxl:xs.length=n)(ha:a+m<=n)(zs:List α)(hz:zs.length=m) :
  (((L.take a++xs.drop (a+m)++L.drop (a+(xs.drop (a+m)).length)).take (n-m))++zs++((L.take a++xs.drop (a+m)++L.drop (a+(xs.drop (a+m)).length)).drop (n-m+zs.length))).take (n-m)=xs.take a++xs.drop (a+m):=by
 have h1:L.take a=xs.take a:=by rw[<-hx,List.take_take,Nat.min_eq_left (by omega)]
 have h2:(L.take a++xs.drop (a+m)++L.drop (a+(xs.drop (a+m)).length)).take (n-m)=xs.take a++xs.drop (a+m):=by
  rw[h1];exact List.take_left' (by simp;omega)
 rw[h2,List.append_assoc];exact List.take_left' (by simp;omega)
theorem qsv{L:List α}{o:Nat}(v:α)(r:List α)(h:o+1+r.length<=L.length):(L.set o v).take (o+1)++r++(L.set o v).drop (o+1+r.length)=L.take o++v::r++L.drop (o+(r.length+1)):=by
 have h0:(L.take o++[v]).length=o+1:=by simp;omega
 rw[List.set_eq_take_append_cons_drop,if_pos (by omega),List.append_cons,List.take_left' h0]
 have h1:(L.take o++[v]++L.drop (o+1)).drop (o+1+r.length)=L.drop (o+(r.length+1)):=by
  rw[show o+1+r.length=(L.take o++[v]).length+r.length by omega,<-List.drop_drop,List.drop_left,List.drop_drop]
  congr 1
  omega
 rw[h1];simp
end Tm
open Go.RowKit
variable {P:Program}{ops:Array Oper}{o:Oper}{a:Act}{Q:Exit->Act->World->Prop}{w:World}{cap:Nat}{xs:List Value}
theorem qaR{P:Program}(w:World)(dT sT ty elem:TypeId)(size b o qus qzZ:Nat)(a:Addr)(qm qA:Nat)(cs:List Value)
  (hu:P.underlying dT=some (.slice elem)) (hs:(P.info? elem).map (·.size)=some size) (hn:cs.length=Nat.min qm qus * size)
  (qmr:∀j v,cs[j]?=some v->w.cell? (a.add j)=some v) (hc:∀j,j<cs.length->(w.cell? ⟨b,o+j,none⟩).isSome=true) (hf:∀j,j<cs.length->w.frozen? ⟨b,o+j,none⟩=false) (h1:∀v∈cs,v.oneCell'=true) :
  (Builtin.copy_ #[dT,sT] ty #[.slice (some ⟨b,o,none⟩) qus qzZ,.slice (some a) qm qA]).run P w=.ok (goInt (Nat.min qm qus)) (w.setCells b o cs):=by
 have hl:=run_loadCells_list (P:=P) w a cs qmr;have hst:=run_storeCells_cells (P:=P) b o cs 0 w (by simpa using hc) (by simpa using hf) h1
 cases hq:P.info? elem with
 | none=>simp[hq]at hs
 | some i =>
  have hi:i.size=size:=by simpa[hq]using hs
  simp[Builtin.copy_,run_underlying hu,Builtin.lenOf,Builtin.firstCells,sizeOf,typeInfo,hq,hi,<-hn,hl,hst]
theorem qbx{P:Program}(w:World){ops:Array Oper}{rest:List Oper}{a:Act}{Q:Exit->Act->World->Prop}(hgd:o.guard=none)(d s:Operand)(t t':TypeId)
  (ho:o.op=.call {callee:=.builtin .copy,args:=#[d,s],argTypes:=#[t,t']}) (v u:Value) (hd:a.eval d=v) (hs:a.eval s=u) {v':Value} {w':World}
  (hr:(Builtin.copy_ #[t,t'] o.type #[v,u]).run P w=.ok v' w') (h:wpList P ops Q rest (a.put o.dst v') w'):wpList P ops Q (o::rest) a w :=
 wpList_plain hgd fun _ hK=>by
  unfold Oper.wp execOp;simp only[ho,resolve,invoke,builtin,Sem.run_bind,Sem.run_pure,Result.andThen_ok,List.map_toArray,List.map_cons,List.map_nil,hd,hs,hr];exact hK _ _ h
theorem qfM{P:Program}{ops:Array Oper}{o:Oper}{a:Act}{w:World}{K:Act->World->Prop}{Q:Exit->Act->World->Prop}{E:Prop}
  (hg:o.guard=none) (d x:Operand) (dT sT:TypeId) (hop:o.op=Op.call {callee:=Callee.builtin Builtin.copy,args:=#[d,x],argTypes:=#[dT,sT]})
  (v u:Value) (hd:a.eval d=v) (hx:a.eval x=u) {v':Value} {w':World} (hr:(Builtin.copy_ #[dT,sT] o.type #[v,u]).run P w=.ok v' w') (hK:K (a.put o.dst v') w') :
  if Region.wanted o (yielded ops a.tmps)=true then Oper.wp P o a w K Q else E:=by
 have hw:Region.wanted o (yielded ops a.tmps)=true:=by simp[Region.wanted,hg]
 rw[if_pos hw];unfold Oper.wp;simp[execOp,hop,resolve,invoke,builtin,hd,hx,hr,Result.andThen];exact hK
theorem qj0(w:World)(t t' ty e e':TypeId)(ht:P.underlying t=some (.slice e))(ht':P.underlying t'=some (.slice e'))(b:Option Addr)(n cap:Nat)(a:Option Addr)(m c:Nat) :
  (Builtin.append_ #[t,t'] ty #[.slice b n cap,.slice a m c]).run P w=(Builtin.append_ #[t,t] ty #[.slice b n cap,.slice a m c]).run P w:=by
 simp[Builtin.append_,run_underlying ht,run_underlying ht']
theorem xW{P:Program}{w:World}{ops:Array Oper}{rest:List Oper}{a:Act}{Q:Exit->Act->World->Prop}(hgd:o.guard=none)(s x:Operand)(t t':TypeId)
  (ho:o.op=.call {callee:=.builtin .append,args:=#[s,x],argTypes:=#[t,t']})
  (base:Nat) (e e':TypeId) (i:TypeInfo) (z:Value) (size bytes:Nat) (ht:P.underlying t=some (.slice e)) (ht':P.underlying t'=some (.slice e')) (hi:P.info? e=some i) (hz:i.zero=some z)
  (xV:i.size=size) (hby:i.bytes=bytes) (hzs:z.cells.size=size) (hsz:0<size)
  (v:Value) (n:Nat) (xs:List Value) (hs:a.eval s=v) (qp:w.ownsRow base e size v n xs)
  (ad:Addr) (m c:Nat) (news:List Value) (hx:a.eval x=.slice (some ad) m c) (hl:news.length=m * size) (qbm:∀j u,news[j]?=some u->w.cell? (ad.add j)=some u) (h1:∀u∈news,u.oneCell'=true)
  (h63:n+m<=maxLen) (qcr:(n+m) * bytes<=140737488355328) (jl:base<=w.heap.size)
  (h:∀v' w',w'.ownsRow base e size v' (n+m) (xs++news)->w.grownBy w' v.ownBlock->(v'.ownBlock=v.ownBlock\/v'.ownBlock=some w.heap.size)->wpList P ops Q rest (a.put o.dst v') w') :
  wpList P ops Q (o::rest) a w:=by
 refine wpList_plain hgd fun K hK=>?_;obtain⟨v',w',hr,h2,h3,_,h5⟩:=run_append_own_at (P:=P) w base t o.type e i z size bytes ht hi hz xV hby hzs hsz v n xs qp ad m c news hl qbm h1 h63 qcr jl;obtain⟨vb,vc,rfl⟩:=(Reads.qn qp).shape;rw[<-qj0 w t t' o.type e e' ht ht']at hr;unfold Oper.wp execOp;simp only[ho,resolve,invoke,builtin,Sem.run_bind,Sem.run_pure,Result.andThen_ok,List.map_toArray,List.map_cons,List.map_nil,hs,hx,hr];exact hK _ _ (h v' w' h2 h3 h5)
theorem qak{g:Nat}{e:TypeId}:∀(vs:List Value) (o:Nat) (cur:Array Value) (w:World),w.heap[g]?=some (.cells cur e)->o+vs.length<=cur.size ->
  ∃qaT,(w.setCells g o vs).heap[g]?=some (.cells qaT e)/\qaT.size=cur.size/\qaT.toList=cur.toList.take o++vs++cur.toList.drop (o+vs.length)
 | [],o,cur,w,h,_=>⟨cur,h,rfl,by simp⟩
 | v::r,o,cur,w,h,hl=>by
  have h1:(w.setCell ⟨g,o,none⟩ v).heap[g]?=some (.cells (cur.setIfInBounds o v) e):=by simp only[World.setCell,Array.getElem?_modify,h];rfl
  simp only[List.length_cons]at hl;obtain⟨qaT,h2,h3,h4⟩:=qak r (o+1) (cur.setIfInBounds o v) _ h1 (by simp;omega);refine⟨qaT,by rw[World.setCells];exact h2,by rw[h3];simp,?_⟩;rw[h4,Array.toList_setIfInBounds];exact Tm.qsv v r (by simp;omega)
theorem qel(b:Nat)(vs:List Value)(o:Nat)(w:World)(h:∀j,j<vs.length->(w.cell? ⟨b,o+j,none⟩).isSome=true)(k:Nat)(hk:(w.cell? ⟨b,k,none⟩).isSome=true):((w.setCells b o vs).cell? ⟨b,k,none⟩).isSome=true:=by
 by_cases hin:o<=k/\k<o+vs.length
 ·have:=World.cell?_setCells_in b vs o w h (k-o) (by omega);rw[show o+(k-o)=k by omega]at this;rw[this];rfl
 ·rw[World.cell?_setCells_out b vs o w ⟨b,k,none⟩ (fun _ _=>by show k<o\/o+vs.length<=k;omega)];exact hk
theorem Reads.from_{size g off n:Nat}(h:Reads w (.slice (some ⟨g,off,none⟩) n cap) size n xs){j:Nat}(hj:j<=n):Reads w (.slice (some ⟨g,off+j * size,none⟩) (n-j) (cap-j)) size (n-j) (xs.drop (j * size)):=by
 obtain⟨h1,h2,a,c,he,⟨h3,h4⟩,hc⟩:=h;cases he;refine⟨?_,fun g' hg'=>h2 g' (by simpa[Value.ownBlock]using hg'),_,_,rfl,⟨by omega,by omega⟩,fun t u hu=>⟨g,off+j * size,rfl,?_⟩⟩
 ·rw[List.length_drop,h1,Nat.sub_mul]
 ·rw[List.getElem?_drop]at hu;obtain⟨g',j0,he',hx⟩:=hc _ u hu;cases he';rw[Nat.add_assoc];exact hx
theorem Reads.qqt{size n:Nat}{a:Option Addr}(h:Reads w (.slice a n cap) size n xs){j:Nat}(hj:j<=n):Reads w (.slice a j cap) size j (xs.take (j * size)):=by
 obtain⟨h1,h2,a',c,he,⟨h3,h4⟩,hc⟩:=h;cases he
 refine⟨?_,fun g' hg'=>h2 g' (by cases a with
  | none=>simp[Value.ownBlock]at hg'
  | some ad=>simpa[Value.ownBlock]using hg'),_,_,rfl,⟨by omega,by omega⟩,fun t u hu=>?_⟩
 ·rw[List.length_take,h1];have:=Nat.mul_le_mul_right size hj;omega
 ·rw[List.getElem?_take]at hu;split at hu
  ·exact hc t u hu
  ·cases hu
theorem Reads.none_{size g off:Nat}(hg:g<w.heap.size)(hc:cap<=maxLen):Reads w (.slice (some ⟨g,off,none⟩) 0 cap) size 0 [] :=
 ⟨by simp,fun g' hg'=>by simp[Value.ownBlock]at hg';omega,_,_,rfl,⟨Nat.zero_le _,hc⟩,fun j u hu=>by simp at hu⟩
theorem Tryz.qg5:(Tryz.prog.info? 138).map (fun i=>(i.zero,i.size,i.bytes))=some (some (.pointer none),1,8):=by kernel_rfl
theorem qqy(w:World):(Go.sizeOf 138).run Tryz.prog w=.ok 1 w:=by kernel_rfl
theorem Qoc(b off n c i vb qcH m vc:Nat)(cs vs:List Value)(w:World)(hi:i<n)(hm:0<m)(qaQ:n+m<=c)(qBj:c<=9223372036854775807)(hvb:vb≠b)
  (hcl:cs.length=n) (hvl:vs.length=m)
  (hcs:∀j v,cs[j]?=some v->w.cell? ⟨b,off+j,none⟩=some v) (hsp:∀j,j<(n+m)->(w.cell? ⟨b,off+j,none⟩).isSome=true) (hfz:∀j,j<(n+m)->w.frozen? ⟨b,off+j,none⟩=false)
  (hvs:∀j v,vs[j]?=some v->w.cell? ⟨vb,qcH+j,none⟩=some v) (h1c:∀v∈cs,v.oneCell'=true) (h1v:∀v∈vs,v.oneCell'=true)
  (tA tB:TypeId) (kA kB:Nat) (hsa:w.shape? vb=some (tA,kA)) (hsb:w.shape? b=some (tB,kB)) (hkB:kB≠0) (hfa:w.frozen? ⟨vb,qcH,none⟩=false) (hfe:w.frozen? ⟨vb,kA,none⟩=false) :
  Calls Tryz.prog 151 #[.slice (some ⟨b,off,none⟩) n c,.int .i64 i,.slice (some ⟨vb,qcH,none⟩) m vc] w fun e w' =>
   e=.returned (.slice (some ⟨b,off,none⟩) (n+m) c)/\w'=(w.drew.setCells b (off+(i+m)) (cs.drop (i))).setCells b (off+i) vs:=by
 have hz1:¬((m:Int)=0):=by omega
 have hz2:¬((i:Int)=(n:Int)):=by omega
 have hsz:(Tryz.prog.info? 138).map (·.size)=some 1:=by
  obtain⟨i0,hi0,h0,h1,h2⟩:=info_parts Tryz.qg5;rw[hi0];simp[h1]
 have hov:∀lb cb,(callFunc 174 #[.slice (some ⟨vb,qcH,none⟩) m vc,.slice (some ⟨b,off+(i+m),none⟩) lb cb]).run Tryz.prog w=.ok (.value (.bool false)) w:=fun lb cb=>by
  rw[run_callFunc_extern Tryz.func174 (by kernel_rfl) (by kernel_rfl) (by kernel_rfl) (e:=Extern.SlicesOverlaps.overlaps #[119,119] #[4]) (by kernel_rfl),
   Lib.run_overlaps_apart w 119 4 138 Tryz.underlying119 1 qqy ⟨vb,qcH,none⟩ ⟨b,off+(i+m),none⟩ m vc lb cb hvb tA tB kA kB hsa hsb hkB hfa hfe]
  rfl
 have hdl:(cs.drop (i)).length=(n-i):=by rw[List.length_drop,hcl]
 have hw1:IntKind.i64.wrap ((i:Int)+(m:Int))=(i:Int)+(m:Int):=by rw[IntKind.wrap_i64];omega
 have hb1:(0:Int)<=(i:Int)+(m:Int):=by omega
 have hin:i<=n:=by omega
 have htn:((i:Int)+(m:Int)).toNat=i+m:=by omega
 have hb2:¬(c=i+m):=by omega
 have hb3:(i:Int)<=(n:Int)+(m:Int):=by omega
 have hb4:¬(c=i):=by omega
 have qxD:∀ty dc sc,(Builtin.copy_ #[120,120] ty #[.slice (some ⟨b,off+(i+m),none⟩) (n+m-(i+m)) dc,.slice (some ⟨b,off+i,none⟩) (n+m-i) sc]).run Tryz.prog w.drew=.ok (goInt (Nat.min (n+m-i) (n+m-(i+m)))) (w.drew.setCells b (off+(i+m)) (cs.drop (i))):=fun ty dc sc =>
  qaR w.drew _ _ ty 138 1 b (off+(i+m)) (n+m-(i+m)) dc ⟨b,off+i,none⟩ (n+m-i) sc (cs.drop (i)) Tryz.underlying120 hsz (by rw[hdl];simp only[Nat.min_def];split<;>omega)
   (fun j v hj=>by rw[Addr.add_lit,Nat.add_assoc];exact hcs (i+j) v (by rwa [List.getElem?_drop]at hj))
   (fun j hj=>by rw[Nat.add_assoc];exact hsp _ (by omega)) (fun j hj=>by rw[Nat.add_assoc];exact hfz _ (by omega)) (fun v hv=>h1c v (List.mem_of_mem_drop hv))
 obtain⟨W1,hW1⟩:∃W1,W1=w.drew.setCells b (off+(i+m)) (cs.drop (i)):=⟨_,rfl⟩
 have qz0:∀k,k<(n+m)->(W1.cell? ⟨b,off+k,none⟩).isSome=true:=fun k hk=>by
  rw[hW1];exact qel b _ _ _ (fun j hj=>by rw[Nat.add_assoc];exact hsp _ (by omega)) _ (hsp k hk)
 have qz1:∀(W:World),(∀x,W.cell? x=W1.cell? x)->(∀x,W.frozen? x=W1.frozen? x)->∀ty dc,(Builtin.copy_ #[120,119] ty #[.slice (some ⟨b,off+i,none⟩) (n+m-i) dc,.slice (some ⟨vb,qcH,none⟩) m vc]).run Tryz.prog W=.ok (goInt (Nat.min m (n+m-i))) (W.setCells b (off+i) vs):=fun W hWc hWf ty dc =>
  qaR W _ _ ty 138 1 b (off+i) (n+m-i) dc ⟨vb,qcH,none⟩ m vc vs Tryz.underlying120 hsz (by rw[hvl];simp only[Nat.min_def];split<;>omega)
   (fun j v hj=>by
    rw[Addr.add_lit,hWc,hW1,World.cell?_setCells_out b _ _ _ _ (fun h _=>absurd h hvb)]
    exact hvs j v hj)
   (fun j hj=>by rw[hWc,Nat.add_assoc];exact qz0 _ (by omega)) (fun j hj=>by rw[hWf,hW1,World.frozen?_setCells,Nat.add_assoc];exact hfz _ (by omega)) h1v
 rw[<-hW1]at qxD;clear hsp hfz hcs hvs hsa hsb hfa hfe hdl;go_enter Tryz.func151,Tryz.ntmps151
 go_wp2_with (simp only[hov])
 go_region_law (refine qfM rfl _ _ 120 120 rfl _ _ (by simp[Act.eval,Act.put]) (by simp[Act.eval,Act.put]) (qxD _ _ _) ?_)
 go_wp2_with (at_builtin;refine qbx _ rfl _ _ 120 119 rfl _ _ rfl rfl (qz1 _ (fun _=>rfl) (fun _=>rfl) _ _) ?_)
 go_ret
 first|exact⟨rfl,rfl⟩|exact⟨rfl,by rw[hW1]⟩
theorem Qqr(b off n c i vb qcH m vc:Nat)(cs vs:List Value)(w:World)(hi:i<n)(hm:0<m)(hnc:n<=c)(qaQ:c<n+m)(qdw:(n+m) * 8<=140737488355328)
  (hcl:cs.length=n) (hvl:vs.length=m)
  (hcs:∀j v,cs[j]?=some v->w.cell? ⟨b,off+j,none⟩=some v)
  (hvs:∀j v,vs[j]?=some v->w.cell? ⟨vb,qcH+j,none⟩=some v) (h1c:∀v∈cs,v.oneCell'=true) (h1v:∀v∈vs,v.oneCell'=true) :
  Calls Tryz.prog 151 #[.slice (some ⟨b,off,none⟩) n c,.int .i64 i,.slice (some ⟨vb,qcH,none⟩) m vc] w fun e w' =>
   e=.returned (.slice (some ⟨w.heap.size,0,none⟩) (n+m) (grownCap w (n+m) c 138)) /\
   w'=(((w.alloc (.cells ((cs.take (i)).toArray++Builtin.zeroCells #[.pointer none] (n+m-i)++Builtin.zeroCells #[.pointer none] (grownCap w (n+m) c 138-(n+m))) 138)).drew.setCells w.heap.size (i) vs).drew).setCells w.heap.size ((i+m)) (cs.drop (i)):=by
 obtain⟨i0,hi0,hz0,hzs,hzb⟩:=info_parts Tryz.qg5
 have hz1:¬((m:Int)=0):=by omega
 have hz2:¬((i:Int)=(n:Int)):=by omega
 have hz3:(c:Int)<(n:Int)+(m:Int):=by omega
 have hsz:(Tryz.prog.info? 138).map (·.size)=some 1:=by rw[hi0];simp[hzs]
 have hbw:b<w.heap.size:=block_lt_of_cell (hcs 0 _ (List.getElem?_eq_getElem (by omega)));have hvw:vb<w.heap.size:=block_lt_of_cell (hvs 0 _ (List.getElem?_eq_getElem (by omega)))
 have hkk:(n:Int)+(m:Int)-(i:Int)=((n+m-i:Nat):Int):=by omega
 have hik:i+(n+m-i)=n+m:=by omega
 have hold:(Builtin.firstCells i0.size i (.slice (some ⟨b,off,none⟩) i c)).run Tryz.prog w.drew=.ok (cs.take (i)).toArray w.drew:=by
  rw[hzs]
  exact run_firstCells_some w.drew 1 i ⟨b,off,none⟩ i c (cs.take (i)) (by rw[List.length_take];omega) (fun j v hj=>by
   rw[Addr.add_lit];rw[List.getElem?_take]at hj;split at hj
   ·exact hcs j v hj
   ·cases hj)
 have hrz:∀ty,(Builtin.append_ #[120,3] ty #[.slice (some ⟨b,off,none⟩) i c,.int .i64 ((n:Int)+(m:Int)-(i:Int))]).run Tryz.prog w =
   .ok (.slice (some ⟨w.heap.size,0,none⟩) (n+m) (grownCap w (n+m) c 138)) (w.drew.alloc (.cells ((cs.take (i)).toArray++Builtin.zeroCells #[.pointer none] (n+m-i)++Builtin.zeroCells #[.pointer none] (grownCap w (n+m) c 138-(n+m))) 138)):=fun ty=>by
  have h:=Lib.run_append_grow_zeros w 120 3 ty 138 i0 _ .i64 .i64 Tryz.underlying120 Tryz.underlying3 hi0 hz0 (some ⟨b,off,none⟩) i c (cs.take (i)) hold (n+m-i) (by omega) (by omega) (by omega) (by omega) (by rw[hzb];omega) (by rw[hzb,hik];exact growslice_fits qaQ qdw);rw[hik]at h;rw[hkk];exact h
 obtain⟨G,hG⟩:∃G,G=grownCap w (n+m) c 138:=⟨_,rfl⟩
 obtain⟨ROW,qii⟩:∃ROW:Array Value,ROW=(cs.take (i)).toArray++Builtin.zeroCells #[.pointer none] (n+m-i)++Builtin.zeroCells #[.pointer none] (G-(n+m)):=⟨_,rfl⟩
 rw[<-hG]at hrz⊢;rw[<-qii]at hrz⊢
 have hRl:(n+m)<=ROW.size:=by
  rw[qii];simp[size_zeroCells];omega
 obtain⟨W1,hW1⟩:∃W1,W1=w.drew.alloc (.cells ROW 138):=⟨_,rfl⟩
 rw[<-hW1]at hrz
 have hN:∀j,j<(n+m)->(W1.cell? ⟨w.heap.size,j,none⟩).isSome=true:=fun j hj=>by
  rw[hW1,World.cell?_alloc_at (w:=w.drew) ROW _ w.heap.size j rfl,Array.getElem?_eq_getElem (by omega)];rfl
 have hNf:∀j,W1.frozen? ⟨w.heap.size,j,none⟩=false:=fun j=>by rw[hW1];exact World.frozen?_alloc_at (w:=w.drew) ROW _ w.heap.size j rfl
 have hOb:∀j v,w.cell? ⟨b,j,none⟩=some v->W1.cell? ⟨b,j,none⟩=some v:=fun j v h=>by rw[hW1,World.cell?_alloc_past (w:=w.drew) _ b j hbw];exact h
 have hOv:∀j v,w.cell? ⟨vb,j,none⟩=some v->W1.cell? ⟨vb,j,none⟩=some v:=fun j v h=>by rw[hW1,World.cell?_alloc_past (w:=w.drew) _ vb j hvw];exact h
 have qz2:∀(W:World),(∀x,W.cell? x=W1.cell? x)->(∀x,W.frozen? x=W1.frozen? x)->∀ty dc,(Builtin.copy_ #[120,119] ty #[.slice (some ⟨w.heap.size,i,none⟩) (n+m-i) dc,.slice (some ⟨vb,qcH,none⟩) m vc]).run Tryz.prog W=.ok (goInt (Nat.min m (n+m-i))) (W.setCells w.heap.size (i) vs):=fun W hWc hWf ty dc =>
  qaR W _ _ ty 138 1 w.heap.size (i) (n+m-i) dc ⟨vb,qcH,none⟩ m vc vs Tryz.underlying120 hsz (by rw[hvl];simp only[Nat.min_def];split<;>omega)
   (fun j v hj=>by rw[Addr.add_lit,hWc];exact hOv _ v (hvs j v hj))
   (fun j hj=>by rw[hWc];exact hN _ (by omega)) (fun j hj=>by rw[hWf];exact hNf _) h1v
 have hGn:n+m<=G:=by rw[hG];exact grownCap_ge w _ _ _
 have qBk:G<=9223372036854775807:=by
  have:=grownCap_le_maxLen w (n+m) c 138 (by unfold maxLen;omega);rw[<-hG]at this;unfold maxLen at this;omega
 have hGi:¬(G=i):=by omega
 have qBl:¬(G=i+m):=by omega
 have hci:¬(c=i):=by omega
 have hbN:b≠w.heap.size:=by omega
 have hdl:(cs.drop (i)).length=(n-i):=by rw[List.length_drop,hcl]
 have qxE:∀(W:World),(∀x,W.cell? x=(W1.setCells w.heap.size (i) vs).cell? x)->(∀x,W.frozen? x=(W1.setCells w.heap.size (i) vs).frozen? x)->∀ty dc sc,(Builtin.copy_ #[120,120] ty #[.slice (some ⟨w.heap.size,(i+m),none⟩) (n+m-(i+m)) dc,.slice (some ⟨b,off+i,none⟩) (n-i) sc]).run Tryz.prog W=.ok (goInt (Nat.min (n-i) (n+m-(i+m)))) (W.setCells w.heap.size ((i+m)) (cs.drop (i))):=fun W hWc hWf ty dc sc =>
  qaR W _ _ ty 138 1 w.heap.size ((i+m)) (n+m-(i+m)) dc ⟨b,off+i,none⟩ (n-i) sc (cs.drop (i)) Tryz.underlying120 hsz (by rw[hdl];simp only[Nat.min_def];split<;>omega)
   (fun j v hj=>by
    rw[Addr.add_lit,hWc,World.cell?_setCells_out _ _ _ _ _ (fun h _=>absurd h hbN),Nat.add_assoc]
    exact hOb _ v (hcs (i+j) v (by rwa [List.getElem?_drop]at hj)))
   (fun j hj=>by rw[hWc];exact qel _ _ _ _ (fun t ht=>hN _ (by omega)) _ (hN _ (by omega)))
   (fun j hj=>by rw[hWf,World.frozen?_setCells];exact hNf _) (fun v hv=>h1c v (List.mem_of_mem_drop hv))
 subst hW1;have hE1:∀x,((w.alloc (.cells ROW 138)).drew).cell? x=(w.drew.alloc (.cells ROW 138)).cell? x:=fun x=>rfl;have hE2:∀x,((w.alloc (.cells ROW 138)).drew).frozen? x=(w.drew.alloc (.cells ROW 138)).frozen? x:=fun x=>rfl;have hF1:∀x,(((w.alloc (.cells ROW 138)).drew.setCells w.heap.size (i) vs).drew).cell? x=((w.drew.alloc (.cells ROW 138)).setCells w.heap.size (i) vs).cell? x:=fun x=>rfl;have hF2:∀x,(((w.alloc (.cells ROW 138)).drew.setCells w.heap.size (i) vs).drew).frozen? x=((w.drew.alloc (.cells ROW 138)).setCells w.heap.size (i) vs).frozen? x:=fun x=>rfl
 have hw1:IntKind.i64.wrap ((i:Int)+(m:Int))=(i:Int)+(m:Int):=by rw[IntKind.wrap_i64];omega
 have hb1:(0:Int)<=(i:Int)+(m:Int):=by omega
 have hin:i<=n:=by omega
 have htn:((i:Int)+(m:Int)).toNat=i+m:=by omega
 have hb3:(i:Int)<=(n:Int):=by omega
 clear hkk hik hold qii hG hRl hcs hvs hdl;go_enter Tryz.func151,Tryz.ntmps151
 go_wp2_with (first
  | (at_builtin;refine Lib.wpList_append_run _ rfl _ _ _ _ rfl _ _ rfl rfl _ _ (hrz _) ?_)
  | (at_builtin;refine qbx _ rfl _ _ 120 119 rfl _ _ rfl rfl (qz2 _ hE1 hE2 _ _) ?_)
  | (at_builtin;refine qbx _ rfl _ _ 120 120 rfl _ _ rfl rfl (qxE _ (fun _=>rfl) (fun _=>rfl) _ _ _) ?_))
 go_region_law (refine qfM rfl _ _ 120 120 rfl (.slice (some ⟨w.heap.size,(i+m),none⟩) (n+m-(i+m)) (G-(i+m))) (.slice (some ⟨b,off+i,none⟩) (n-i) (c-i)) (by simp[Act.eval,Act.put]) (by simp[Act.eval,Act.put]) (qxE _ hF1 hF2 3 (G-(i+m)) (c-i)) ?_)
 go_wp2;go_ret;exact⟨rfl,rfl⟩
theorem Qsn(base:Nat)(v:Value)(n vb:Nat)(xs news:List Value)(w:World)(qp:w.ownsRow base 138 1 v n xs)(hnl:news.length=1)(hn:n<=1000)
  (hvs:∀j u,news[j]?=some u->w.cell? ⟨vb,0+j,none⟩=some u) (h1v:∀u∈news,u.oneCell'=true) (jl:base<=w.heap.size) :
  Calls Tryz.prog 151 #[v,.int .i64 n,.slice (some ⟨vb,0,none⟩) 1 1] w fun e w' =>
   ∃v',e=.returned v'/\w'.ownsRow base 138 1 v' (n+1) (xs++news)/\w.grownBy w' v.ownBlock/\(v'.ownBlock=v.ownBlock\/v'.ownBlock=some w.heap.size):=by
 obtain⟨i0,hi0,hz0,hzs,hzb⟩:=info_parts Tryz.qg5;have HO:=qb qp;have hf:=(Reads.qn qp)
 obtain⟨a,cap,rfl⟩:=hf.shape;obtain⟨_,hnc,hcm⟩:=hf.fits;unfold maxLen at hcm
 have HV:Hid (∀j u,news[j]?=some u->w.cell? ((⟨vb,0,none⟩:Addr).add j)=some u):=fun j u hu=>by rw[Addr.add_lit];exact hvs j u hu
 have Qum:Hid (a=none->n=0/\cap=0):=fun e=>by
  subst e;rcases qp.2 with⟨h1,h2⟩|⟨g,z8,cur,h1,_⟩
  ·cases h1;exact⟨rfl,rfl⟩
  ·cases h1
 clear qp hf hvs
 cases a with
 | none =>
  obtain⟨h0,h00⟩:=Qum.out rfl;subst h0;subst h00;go_enter Tryz.func151,Tryz.ntmps151
  go_wp2_with (at_builtin;refine xW rfl _ _ 120 119 rfl base 138 138 i0 (.pointer none) 1 8 Tryz.underlying120 Tryz.underlying119 hi0 hz0 hzs hzb rfl (by omega) _ _ _ rfl HO.out ⟨vb,0,none⟩ 1 1 news rfl (by omega) HV.out h1v (by unfold maxLen;omega) (by omega) jl ?_)
  intro v' w' h1 h2 h3;have QN:=qb (And.intro h1 (And.intro h2 h3));obtain⟨a',z8,rfl⟩:=(Reads.qn h1).shape;clear h1 h2 h3;go_wp2;go_ret;exact⟨_,rfl,QN.out⟩
 | some ad =>
  obtain⟨g,off,sp⟩:=ad;go_enter Tryz.func151,Tryz.ntmps151
  go_wp2_with (at_builtin;refine xW rfl _ _ 120 119 rfl base 138 138 i0 (.pointer none) 1 8 Tryz.underlying120 Tryz.underlying119 hi0 hz0 hzs hzb rfl (by omega) _ _ _ rfl HO.out ⟨vb,0,none⟩ 1 1 news rfl (by omega) HV.out h1v (by unfold maxLen;omega) (by omega) jl ?_)
  all_goals
   intro v' w' h1 h2 h3;have QN:=qb (And.intro h1 (And.intro h2 h3));obtain⟨a',z8,rfl⟩:=(Reads.qn h1).shape;clear h1 h2 h3;go_wp2;go_ret;exact⟨_,rfl,QN.out⟩
